import PyProof.Rows.All
import Wide.All
import OpenK.AllK
import Wide.FinOn
import HandS.Words
import HandS.WordsExc
import HandS.ForMost
import HandS.Zip
import HandS.Codes
import HandS.Walk
import HandS.Wide
import HandS.Gcd
import HandS.IsInst
import HandS.AnyAll
import HandS.ClsMeth
import HandS.Lambda
import HandS.ExcInitHot
import HandS.Defaults
import HandS.HeadHook1
import HandS.HeadHook2
import HandS.HeadNt
import HandS.NestedK
import KE.KExcInit
import KE.KStateDown
import Lean
import HandS.Head0
import HandS.Head1
import HandS.Head2
import HandS.Head3
import HandS.HeadEnd
import HandS.ExcInit
import KE.KExcIs
import HandS.MakeKw
import HandS.Exc
import PyProof.Draws
import PyProof.EnumMake
import KE.GoesMore
import HandS.MakeKwOnly
import KE.KDictZip
import HandS.Style
import HandS.ExcIs
import HandS.ExcField
import HandS.TryMany
import HandS.HotCalls
import HandS.ListEq
import HandS.OwnEq
import PyProof.InstNe
import KE.KFmtOwn
import HandS.Iter
import HandS.HeadWalk
import PySem.Challenge.RW_creepclocks_k22_partings_judged
set_option Elab.async false
set_option linter.all false
set_option maxRecDepth 100000
section
set_option maxHeartbeats 4000000
namespace Kx
open PySem PySem.Spec PyProof.Rows L2
def top (i : Nat) : Stmt := PySem.Challenge.pw_creepclocks_k22_partings_judged.main.body.getD i (.Pass ⟨0, 0, 0, 0⟩)
abbrev F__wall : Stmt := top 1
abbrev C_CreepError : Stmt := top 3
abbrev C_InvalidNumber : Stmt := top 4
abbrev C_InvalidNumber_init : Stmt := inClass (top 4) 0
abbrev C_InvalidFraction : Stmt := top 5
abbrev C_InvalidFraction_init : Stmt := inClass (top 5) 0
abbrev C_InvalidOrder : Stmt := top 6
abbrev C_InvalidOrder_init : Stmt := inClass (top 6) 0
abbrev C_UnlikeOrders : Stmt := top 7
abbrev C_UnlikeOrders_init : Stmt := inClass (top 7) 0
abbrev C_InvalidPlace : Stmt := top 8
abbrev C_InvalidPlace_init : Stmt := inClass (top 8) 0
abbrev C_InvalidPower : Stmt := top 9
abbrev C_InvalidPower_init : Stmt := inClass (top 9) 0
abbrev C_CantTurn : Stmt := top 10
abbrev C_CantTurn_init : Stmt := inClass (top 10) 0
abbrev C_NotSlow : Stmt := top 11
abbrev C_NotSlow_init : Stmt := inClass (top 11) 0
abbrev C_NoAnswer : Stmt := top 12
abbrev C_DividedByZero : Stmt := top 13
abbrev C_DividedByZero_init : Stmt := inClass (top 13) 0
abbrev F_is_whole : Stmt := top 19
abbrev F_is_between : Stmt := top 20
abbrev F_is_fraction : Stmt := top 21
abbrev F_ratio : Stmt := top 22
abbrev F_difference_of : Stmt := top 23
abbrev F_product_of : Stmt := top 24
abbrev F_quotient_of : Stmt := top 25
abbrev F_fraction_text : Stmt := top 26
abbrev F_is_listing : Stmt := top 30
abbrev F_check_order : Stmt := top 31
abbrev F_check_orders : Stmt := top 32
abbrev F_check_place : Stmt := top 33
abbrev F_check_number : Stmt := top 34
abbrev F_wrong_item : Stmt := top 35
abbrev F_check_fractions : Stmt := top 36
abbrev F_checked_numbers : Stmt := top 37
abbrev F_check_slow : Stmt := top 38
abbrev F_check_turnable : Stmt := top 39
abbrev F_is_zero : Stmt := top 41
abbrev F_least_place : Stmt := top 42
abbrev F_differences_of : Stmt := top 43
abbrev F_dot : Stmt := top 44
abbrev F_mixed : Stmt := top 45
abbrev F_over_one_lower : Stmt := top 46
abbrev F_multiplied : Stmt := top 47
abbrev F_still_numbers : Stmt := top 48
abbrev F_table_lines : Stmt := top 49
abbrev F_put_behind : Stmt := top 50
abbrev F_solved : Stmt := top 51
abbrev F_turned_back : Stmt := top 52
abbrev F_done_times : Stmt := top 53
abbrev F_differences : Stmt := top 54
abbrev F_binomials : Stmt := top 55
abbrev F_binomial_power : Stmt := top 56
abbrev F_letter_text : Stmt := top 58
abbrev F_term_text : Stmt := top 59
abbrev F_term_words : Stmt := top 60
abbrev F_numbers_text : Stmt := top 61
abbrev F_kind_of : Stmt := top 63
abbrev C_Step : Stmt := top 64
abbrev C_Step_init : Stmt := inClass (top 64) 0
abbrev C_Step_still : Stmt := inClass (top 64) 1
abbrev C_Step_scaling : Stmt := inClass (top 64) 2
abbrev C_Step_numbers : Stmt := inClass (top 64) 3
abbrev C_Step_number : Stmt := inClass (top 64) 4
abbrev C_Step_power : Stmt := inClass (top 64) 5
abbrev C_Step_renamed : Stmt := inClass (top 64) 6
abbrev C_Step_cut : Stmt := inClass (top 64) 7
abbrev C_Step_gone_on : Stmt := inClass (top 64) 8
abbrev C_Step_as_row : Stmt := inClass (top 64) 9
abbrev C_Step_text : Stmt := inClass (top 64) 10
abbrev C_Step_mul : Stmt := inClass (top 64) 11
abbrev C_Step_invert : Stmt := inClass (top 64) 12
abbrev C_Step_eq : Stmt := inClass (top 64) 13
abbrev C_Step_len : Stmt := inClass (top 64) 14
abbrev C_Step_str : Stmt := inClass (top 64) 15
abbrev C_Step_repr : Stmt := inClass (top 64) 16
abbrev F_first_difference : Stmt := top 65
abbrev C_Paper : Stmt := top 67
abbrev C_Paper_init : Stmt := inClass (top 67) 0
abbrev C_Paper_wrong : Stmt := inClass (top 67) 1
abbrev F_unequal_sides : Stmt := top 68
abbrev C_Parting : Stmt := top 70
abbrev C_Parting_init : Stmt := inClass (top 70) 0
abbrev C_Parting_wrong : Stmt := inClass (top 70) 1
abbrev L_bag : Stmt := top 72
abbrev L_draw : Stmt := top 73
abbrev L_of : Stmt := top 74
abbrev L_same : Stmt := top 75
abbrev L_low : Stmt := top 76
abbrev L_add : Stmt := top 77
abbrev L_sub : Stmt := top 78
abbrev L_mul : Stmt := top 79
abbrev L_div : Stmt := top 80
abbrev L_plus : Stmt := top 81
abbrev L_less : Stmt := top 82
abbrev L_scaled : Stmt := top 83
abbrev L_zeros : Stmt := top 84
abbrev L_x : Stmt := top 85
abbrev L_whole : Stmt := top 86
abbrev L_conv : Stmt := top 87
abbrev L_prod : Stmt := top 88
abbrev L_put : Stmt := top 89
abbrev L_led : Stmt := top 90
abbrev L_back : Stmt := top 91
abbrev L_first : Stmt := top 92
abbrev L_num : Stmt := top 93
abbrev L_not0 : Stmt := top 94
abbrev L_wide : Stmt := top 95
abbrev L_order : Stmt := top 96
abbrev L_flat : Stmt := top 97
abbrev L_tail : Stmt := top 98
abbrev L_creep : Stmt := top 99
abbrev L_slow : Stmt := top 100
abbrev L_step : Stmt := top 101
abbrev L_renamer : Stmt := top 102
abbrev L_is_step : Stmt := top 103
abbrev L_unled : Stmt := top 104
abbrev L_scaling : Stmt := top 105
abbrev L_odd_step : Stmt := top 106
abbrev L_flipped : Stmt := top 107
abbrev L_fits : Stmt := top 108
abbrev L_paper : Stmt := top 109
abbrev L_spoilt : Stmt := top 110
abbrev L_due : Stmt := top 111
abbrev L_judged : Stmt := top 112
abbrev L_once : Stmt := top 113
abbrev L_law : Stmt := top 114
end Kx
end
section
set_option maxHeartbeats 4000000
namespace Kx
open PySem PySem.Spec PyProof.Rows L2
/-- a def of the module: its name, its place in the text, its address -/
structure LD where
  nm : Str
  ix : Nat
  f : Addr
def ptN0 : List Str := ["title", "step", "pure", "slow", "straightener"]
def stN0 : List Str := ["_numbers", "order", "lead", "kind", "height", "flat", "strength"]
def ldT : List LD := [
  ⟨"is_whole", 19, 256⟩,
  ⟨"is_between", 20, 263⟩,
  ⟨"is_fraction", 21, 270⟩,
  ⟨"ratio", 22, 277⟩,
  ⟨"difference_of", 23, 284⟩,
  ⟨"product_of", 24, 291⟩,
  ⟨"quotient_of", 25, 298⟩,
  ⟨"is_listing", 30, 312⟩,
  ⟨"check_order", 31, 319⟩,
  ⟨"check_orders", 32, 326⟩,
  ⟨"check_number", 34, 340⟩,
  ⟨"wrong_item", 35, 347⟩,
  ⟨"check_fractions", 36, 354⟩,
  ⟨"checked_numbers", 37, 361⟩,
  ⟨"is_zero", 41, 380⟩,
  ⟨"least_place", 42, 387⟩,
  ⟨"dot", 44, 399⟩,
  ⟨"mixed", 45, 404⟩,
  ⟨"over_one_lower", 46, 409⟩,
  ⟨"multiplied", 47, 414⟩,
  ⟨"still_numbers", 48, 421⟩,
  ⟨"table_lines", 49, 426⟩,
  ⟨"put_behind", 50, 433⟩,
  ⟨"kind_of", 63, 506⟩,
  ⟨"first_difference", 65, 652⟩,
  ⟨"unequal_sides", 68, 687⟩,
  ⟨"_law_bag", 72, 720⟩,
  ⟨"_law_draw", 73, 727⟩,
  ⟨"_law_of", 74, 734⟩,
  ⟨"_law_same", 75, 739⟩,
  ⟨"_law_low", 76, 746⟩,
  ⟨"_law_add", 77, 753⟩,
  ⟨"_law_sub", 78, 760⟩,
  ⟨"_law_mul", 79, 767⟩,
  ⟨"_law_div", 80, 774⟩,
  ⟨"_law_plus", 81, 779⟩,
  ⟨"_law_less", 82, 784⟩,
  ⟨"_law_scaled", 83, 789⟩,
  ⟨"_law_zeros", 84, 796⟩,
  ⟨"_law_x", 85, 803⟩,
  ⟨"_law_whole", 86, 808⟩,
  ⟨"_law_conv", 87, 815⟩,
  ⟨"_law_prod", 88, 820⟩,
  ⟨"_law_put", 89, 825⟩,
  ⟨"_law_led", 90, 832⟩,
  ⟨"_law_back", 91, 839⟩,
  ⟨"_law_first", 92, 846⟩,
  ⟨"_law_num", 93, 853⟩,
  ⟨"_law_not0", 94, 860⟩,
  ⟨"_law_wide", 95, 867⟩,
  ⟨"_law_order", 96, 874⟩,
  ⟨"_law_flat", 97, 881⟩,
  ⟨"_law_tail", 98, 886⟩,
  ⟨"_law_creep", 99, 893⟩,
  ⟨"_law_slow", 100, 900⟩,
  ⟨"_law_step", 101, 905⟩,
  ⟨"_law_renamer", 102, 912⟩,
  ⟨"_law_is_step", 103, 919⟩,
  ⟨"_law_unled", 104, 926⟩,
  ⟨"_law_scaling", 105, 933⟩,
  ⟨"_law_odd_step", 106, 940⟩,
  ⟨"_law_flipped", 107, 947⟩,
  ⟨"_law_fits", 108, 952⟩,
  ⟨"_law_paper", 109, 959⟩,
  ⟨"_law_spoilt", 110, 964⟩,
  ⟨"_law_due", 111, 969⟩,
  ⟨"_law_judged", 112, 974⟩,
  ⟨"_law_once", 113, 981⟩,
  ⟨"law", 114, 988⟩
]
abbrev stA : Addr := 641
abbrev paA : Addr := 676
abbrev ptA : Addr := 711
abbrev zeA : Addr := 247
abbrev onA : Addr := 248
abbrev moA : Addr := 249
abbrev ceA : Addr := 59
abbrev coA : Addr := 117
abbrev cfA : Addr := 98
abbrev cuA : Addr := 136
def freeN : List Str := ["isinstance", "len", "list", "tuple", "int", "range", "all", "zip", "bool", "str", "abs", "enumerate", "sum", "min"]
def tabA : List Addr := []
def ldD (d : LD) : He5.DefA := { at_ := fun _ => d.f, name := d.nm, qual := d.nm, params := defArgs (top d.ix), body := defBody (top d.ix), scope := defScope (top d.ix) }
def mtD (q nm : Str) (f : Addr) (st : Stmt) : He5.DefA := { at_ := fun _ => f, name := nm, qual := q, params := defArgs st, body := defBody st, scope := defScope st }
def clT : List He5.DefA := [mtD "Step.__init__" "__init__" 520 (inClass (top 64) 0),
  mtD "Step.still" "still" 527 (inClass (top 64) 1),
  mtD "Step.scaling" "scaling" 537 (inClass (top 64) 2),
  mtD "Step.numbers" "numbers" 547 (inClass (top 64) 3),
  mtD "Step.__mul__" "__mul__" 603 (inClass (top 64) 11),
  mtD "Paper.__init__" "__init__" 666 (inClass (top 67) 0),
  mtD "Parting.__init__" "__init__" 701 (inClass (top 70) 0),
  mtD "Parting.wrong" "wrong" 708 (inClass (top 70) 1),
  mtD "InvalidOrder.__init__" "__init__" 114 (inClass (top 6) 0),
  mtD "InvalidFraction.__init__" "__init__" 95 (inClass (top 5) 0),
  mtD "UnlikeOrders.__init__" "__init__" 133 (inClass (top 7) 0)]
def fnT : List He5.DefA := clT ++ ldT.map ldD
def kpB (K : PySem.W.Frag) (a : Addr) (x y : Int) : Bool := match K.lookup a with
  | some ⟨.type c, _, .seq its _, _⟩ => decide (c = "tuple") && (decide (its.size ≤ sizeLine) && He.relAll [.int x, .int y] its.toList)
  | _ => false
def owT (K : PySem.W.Frag) (C iA : Addr) (ns : List Str) : Bool :=
  PySem.W.plainGet K C Str.empty && (PySem.W.hasDictIn K C && (PySem.W.plainOver K C && (He.eqO (PySem.W.findIn K (.ref C) "__setattr__") (some (some (.builtin "object.__setattr__"))) && (ns.all (fun x => He.eqO (PySem.W.findIn K (.ref C) x) (some none)) &&
  (PySem.W.makesIn K C && (He.eqO (PySem.W.findIn K (.ref C) "__init__") (some (some (.ref iA))) && (PySem.W.isFn K (.ref iA) && (PySem.W.keepIn K (.ref C) && (He.eqO (PySem.W.findIn K (.ref C) "__class__") (some (some (.builtin "object.__class__"))) &&
  (He.eqO (PySem.W.specialIn K (.builtin "object.__class__") "__get__") (some (some (.builtin "getset_descriptor.__get__"))) && (decide (PySem.W.takesIn K (.builtin "object.__class__") = some true) && decide (PySem.W.mroIn K C (.type "object") = some true))))))))))))
def rdB (K : PySem.W.Frag) (C : Addr) : Bool := PySem.W.readsIn K C (.type "type") && He.eqO (PySem.W.specialIn K (.ref C) "__getattribute__") (some (some (.builtin "type.__getattribute__")))
def stB (K : PySem.W.Frag) (C sA gA : Addr) (m : Str) : Bool := He5.wrapB K C "staticmethod" "staticmethod.__get__" m && (decide (He.ma K C m = sA) && decide (He5.wf K C "staticmethod" m = gA))
def cfnB (K : PySem.W.Frag) (C gA : Addr) (m : Str) : Bool := match PySem.W.findCls K (.ref C) (.type "type") m with
  | some (.val v) => decide (v = .ref gA)
  | _ => false
/-- an own exception class -/
def exB (K : PySem.W.Frag) (C iA : Addr) (mb : List Value) (nw : String) (ns : List Str) : Bool :=
  PySem.W.excInitIn K C mb nw && (PySem.W.excOver K C mb && ((PySem.W.clsIn K C).isSome && (PySem.W.hasDictIn K C && (He.eqO (PySem.W.findIn K (.ref C) "__setattr__") (some (some (.builtin "object.__setattr__"))) && (He.eqO (PySem.W.findIn K (.ref C) "__getattribute__") (some (some (.builtin "BaseException.__getattribute__"))) &&
  (He.eqO (PySem.W.findIn K (.ref C) "__getattr__") (some none) && (decide (PySem.W.subIn K (.ref C) (.type "BaseException") = some true) && (He.eqO (PySem.W.findIn K (.ref C) "__class__") (some (some (.builtin "object.__class__"))) && (He.eqO (PySem.W.specialIn K (.builtin "object.__class__") "__get__") (some (some (.builtin "getset_descriptor.__get__"))) &&
  (decide (PySem.W.takesIn K (.builtin "object.__class__") = some true) && (decide (PySem.W.mroIn K C (.type "object") = some true) && (PySem.W.keepIn K (.ref C) && (decide (PySem.W.typeIn K (.ref C) = some (.type "type")) && (He.eqO (PySem.W.findIn K (.ref C) "__init__") (some (some (.ref iA))) &&
  (PySem.W.isFn K (.ref iA) && ns.all (fun x => He.eqO (PySem.W.findIn K (.ref C) x) (some none)))))))))))))))))
def codeB (K : PySem.W.Frag) (f c : Addr) : Bool := match K.lookup f with
  | some ⟨_, _, .func fd, _⟩ => (match fd.code with | .ref c' => decide (c' = c) | _ => false)
  | _ => false
def mtB (K : PySem.W.Frag) (C f : Addr) (m : Str) : Bool := He.eqO (PySem.W.findIn K (.ref C) m) (some (some (.ref f))) && PySem.W.isFn K (.ref f)
def mtT : List (Addr × Addr × Str) := [(stA, 547, "numbers"), (stA, 603, "__mul__"), (ptA, 708, "wrong")]
/-- the looks -/
def faT : List (PySem.W.Frag → Bool) := [
  fun K => ldT.all fun d => He.eqO (PySem.W.nsIn K mainGlobals d.nm) (some (some (.ref d.f))),
  fun K => freeN.all fun x => He.eqO (PySem.W.nsIn K mainGlobals x) (some none),
  fun K => He.eqO (PySem.W.nsIn K mainGlobals "gcd") (some (some (.builtin "math.gcd"))),
  fun K => He.eqO (PySem.W.nsIn K mainGlobals "lcm") (some (some (.builtin "math.lcm"))),
  fun K => He.eqO (PySem.W.nsIn K mainGlobals "Step") (some (some (.ref stA))),
  fun K => He.eqO (PySem.W.nsIn K mainGlobals "Paper") (some (some (.ref paA))),
  fun K => He.eqO (PySem.W.nsIn K mainGlobals "Parting") (some (some (.ref ptA))),
  fun K => He.eqO (PySem.W.nsIn K mainGlobals "ZERO") (some (some (.ref zeA))),
  fun K => He.eqO (PySem.W.nsIn K mainGlobals "ONE") (some (some (.ref onA))),
  fun K => He.eqO (PySem.W.nsIn K mainGlobals "MINUS_ONE") (some (some (.ref moA))),
  fun K => He.eqO (PySem.W.nsIn K mainGlobals "CreepError") (some (some (.ref ceA))),
  (He.Fa.int "LOWEST_ORDER" 2).ok,
  (He.Fa.int "HIGHEST_ORDER" 24).ok,
  (He.Fa.int "MOST_POWER" 64).ok,
  fun K => kpB K zeA 0 1,
  fun K => kpB K onA 1 1,
  fun K => kpB K moA (-1) 1,
  fun K => owT K stA 520 stN0,
  fun K => owT K ptA 701 ptN0,
  fun K => rdB K stA,
  fun K => rdB K paA,
  fun K => stB K stA 529 527 "still",
  fun K => stB K stA 539 537 "scaling",
  fun K => cfnB K paA 666 "__init__",
  fun K => decide (PySem.W.kitOne K (.ref stA) (.ref stA) = some true),
  fun K => decide (PySem.W.kitOne K (.ref ptA) (.ref ptA) = some true),
  fun K => decide (PySem.W.kitOne K (.ref ptA) (.ref paA) = some true),
  fun K => PySem.W.selfFirst K stA,
  fun K => exB K 117 114 [.type "ValueError", .type "Exception", .type "BaseException", .type "object"] "ValueError.__new__" ["code", "value"],
  fun K => exB K 98 95 [.type "ValueError", .type "Exception", .type "BaseException", .type "object"] "ValueError.__new__" ["code", "at"],
  fun K => exB K 136 133 [.type "ValueError", .type "Exception", .type "BaseException", .type "object"] "ValueError.__new__" ["code", "one", "other"],
  fun K => He.eqO (PySem.W.nsIn K mainGlobals "InvalidOrder") (some (some (.ref 117))),
  fun K => He.eqO (PySem.W.nsIn K mainGlobals "InvalidFraction") (some (some (.ref 98))),
  fun K => He.eqO (PySem.W.nsIn K mainGlobals "UnlikeOrders") (some (some (.ref 136))),
  fun K => mtT.all fun t => mtB K t.1 t.2.1 t.2.2,
  fun K => tabA.all fun a => (K.lookup a).isNone]
abbrev ObV : Type := Bool × List He5.FnW
def obK (K : PySem.W.Frag) : ObV := ((faT.all fun f => f K) && fnT.all fun d => d.ok K, fnT.map fun d => He5.fnA K (d.at_ K))
def valR : ObV := (true, fnT.map He5.DefA.val)
def adr : List Addr := [mainGlobals, cStatics, stA, 640, paA, 675, ptA, 710, 529, 539, ceA, 58, zeA, onA, moA, 117, 116, 98, 97, 136, 135, 520, 519, 527, 526, 537, 536, 547, 546, 603, 602, 666, 665, 701, 700, 708, 707, 114, 113, 95, 94, 133, 132] ++ ldT.flatMap fun d => [d.f, d.f - 1]
def obR (g : Addr → Option Obj) : ObV := obK (He.frG g adr)
def tblB (g : Addr → Option Obj) : Bool := tabA.all fun a => match g a with
  | some ⟨.none, none, .fields vs, sl⟩ => decide (vs = #[]) && decide (sl.size = 0)
  | _ => false
theorem tblB_ok {g : Addr → Option Obj} (h : tblB g = true) : ∀ a ∈ tabA, g a = some { cls := .none, data := .fields #[] } := fun a ha => by
  have q := List.all_eq_true.mp h a ha
  split at q
  · rename_i vs sl e
    obtain ⟨q1, q2⟩ := He.ba q
    have e2 : sl = #[] := Array.eq_empty_of_size_eq_zero (of_decide_eq_true q2)
    rw [e, of_decide_eq_true q1, e2]
  · cases q
def SaysR (K : PySem.W.Frag) : Prop := obK K = valR
def hookR : PySem.W.Hook where
  α := ObV × Bool
  obs := fun s => (obR s.heap.get?, tblB s.heap.get?)
  val := fun _ => (valR, true)
  says := fun _ h => (∃ K : PySem.W.Frag, K.In h ∧ SaysR K) ∧ ∀ a ∈ tabA, h.get? a = some { cls := .none, data := .fields #[] }
  of := fun _ _ e => ⟨⟨_, He.frG_in, (Prod.mk.inj e).1⟩, tblB_ok (Prod.mk.inj e).2⟩
  keeps := fun _ _ _ ⟨⟨K, hK, c⟩, t⟩ k => ⟨⟨K, PySem.W.Frag.In.keeps hK k, c⟩, fun a ha => k _ _ (t a ha)⟩
end Kx
end
section
set_option maxHeartbeats 0
namespace Kx
open PySem PySem.Spec PyProof.Rows L2
abbrev R : PySem.W.OpenRow := PySem.W.OpenLaw.row PySem.Challenge.rw_creepclocks_k22_partings_judged
def names0 : List PySem.Str := ["_wall", "CreepError", "InvalidNumber", "InvalidFraction", "InvalidOrder", "UnlikeOrders", "InvalidPlace", "InvalidPower", "CantTurn", "NotSlow", "NoAnswer", "DividedByZero", "ZERO", "ONE", "MINUS_ONE", "MOST_POWER", "is_whole", "is_between", "is_fraction", "ratio"]
def names1 : List PySem.Str := ["difference_of", "product_of", "quotient_of", "fraction_text", "LOWEST_ORDER", "HIGHEST_ORDER", "is_listing", "check_order", "check_orders", "check_place", "check_number", "wrong_item", "check_fractions", "checked_numbers", "check_slow", "check_turnable", "is_zero", "least_place", "differences_of", "dot"]
def names2 : List PySem.Str := ["mixed", "over_one_lower", "multiplied", "still_numbers", "table_lines", "put_behind", "solved", "turned_back", "done_times", "differences", "binomials", "binomial_power", "letter_text", "term_text", "term_words", "numbers_text", "kind_of", "Step", "first_difference", "Paper"]
def names3 : List PySem.Str := ["unequal_sides", "Parting", "_law_bag", "_law_draw", "_law_of", "_law_same", "_law_low", "_law_add", "_law_sub", "_law_mul", "_law_div", "_law_plus", "_law_less", "_law_scaled", "_law_zeros", "_law_x", "_law_whole", "_law_conv", "_law_prod", "_law_put"]
def names4 : List PySem.Str := ["_law_led", "_law_back", "_law_first", "_law_num", "_law_not0", "_law_wide", "_law_order", "_law_flat", "_law_tail", "_law_creep", "_law_slow", "_law_step", "_law_renamer", "_law_is_step", "_law_unled", "_law_scaling", "_law_odd_step", "_law_flipped", "_law_fits", "_law_paper"]
def names5 : List PySem.Str := ["_law_spoilt", "_law_due", "_law_judged", "_law_once"]
def names : List PySem.Str := names0 ++ names1 ++ names2 ++ names3 ++ names4 ++ names5
abbrev hk : PySem.W.Hook := hookR
def ob (s : PySem.W.SharedT) : ObV × Bool := (obR (HandSHeadRun.getT s), tblB (HandSHeadRun.getT s))
theorem ob_eq (s : PySem.W.SharedT) : ob s = hk.obs s.abs := by
  have e : HandSHeadRun.getT s = s.abs.heap.get? := funext fun a => HandSHeadRun.getT_eq s a
  unfold ob
  rw [e]
  rfl
noncomputable abbrev endI (w : World) := HandSHeadRun.wholeF (fun p => HandSHeadRun.stepQ (HandSHeadRun.denQ HandSHeadRun.tabQ) p w) HandSHeadRun.fenceQ 20000 R.prog
abbrev qv := PySem.W.view R.prog [0, 114]
theorem run1a (w : World) : (endI w).map (fun x => HandSHeadRun.looksF R.prog x.1.heap x.2.abs) = some true := by
  kernel_rfl
theorem run1b (w : World) : (endI w).map (fun x => (obR (HandSHeadRun.getT x.2)).1) = some true := by
  kernel_rfl
theorem run1c (w : World) : (endI w).map (fun x => (obR (HandSHeadRun.getT x.2)).2) = some valR.2 := by
  kernel_rfl
theorem run1d (w : World) : (endI w).map (fun x => tblB (HandSHeadRun.getT x.2)) = some true := by
  kernel_rfl
theorem run1 (w : World) : (endI w).map (fun x => (HandSHeadRun.looksF R.prog x.1.heap x.2.abs, ob x.2)) = some (true, (valR, true)) := by
  obtain ⟨x, e1, e2⟩ := Option.map_eq_some_iff.mp (run1a w)
  have e3 := run1b w
  have e4 := run1c w
  have e5 := run1d w
  rw [e1] at e3 e4 e5 ⊢
  have e3 : (obR (HandSHeadRun.getT x.2)).1 = true := Option.some.inj e3
  have e4 : (obR (HandSHeadRun.getT x.2)).2 = valR.2 := Option.some.inj e4
  have e5 : tblB (HandSHeadRun.getT x.2) = true := Option.some.inj e5
  have e6 : obR (HandSHeadRun.getT x.2) = valR := Prod.ext e3 e4
  show some (HandSHeadRun.looksF R.prog x.1.heap x.2.abs, (obR (HandSHeadRun.getT x.2), tblB (HandSHeadRun.getT x.2))) = _
  rw [e2, e5, e6]
theorem run2 (w : World) : (endI w).map (fun x => HandSHeadRun.seenQ qv names (importedModules R.prog.main.body) (fun s => PySem.W.xlAt qv [] s && PySem.W.recOk R.toRowW.records s) x.2.abs) = some (PySem.W.openGood qv names) := by
  kernel_rfl
theorem run (w : World) : HandSHeadRun.RunEqI R qv hk ob 20000 names w := by
  obtain ⟨x, e1, e2⟩ := Option.map_eq_some_iff.mp (run1 w)
  have e3 := run2 w
  show (endI w).map _ = _
  rw [e1] at e3 ⊢
  have e4 := Option.some.inj e3
  have e5 := (Prod.mk.inj e2).1
  have e6 := (Prod.mk.inj e2).2
  show some (HandSHeadRun.looksF R.prog x.1.heap x.2.abs, HandSHeadRun.seenQ qv names (importedModules R.prog.main.body) (fun s => PySem.W.xlAt qv [] s && PySem.W.recOk R.toRowW.records s) x.2.abs, ob x.2) = _
  rw [e5, e6]
  exact congrArg some (congrArg (Prod.mk true) (congrArg (fun z => (z, (valR, true))) e4))
end Kx
end
section
set_option maxHeartbeats 4000000
namespace Kx
open PySem PySem.Spec PyProof.Rows L2
/-! ### powers of greater bases -/
def CPowL (i j : Int) : Prop := 0 ≤ j ∧ j ≤ 4 ∧ i.natAbs < 2 ^ 200
theorem op_powL {X : Cx} : OpR X (binaryOp .Pow) (rI CPowL fun i j => .int (i ^ j.toNat)) := opI fun i j _ _ _ _ _ hc q => pow_int hc.1 (by
  have h1 := hc.1
  have h2 := hc.2.1
  have h3 : Builtin.Int.intBits i ≤ 200 := by
    unfold Builtin.Int.intBits
    split
    · omega
    · have := PySem.Flt.log2_lt_of (k := 200) (by decide) hc.2.2
      omega
  have h4 : (Builtin.Int.intBits i : Int) * j ≤ 200 * 4 := Int.mul_le_mul (by omega) h2 h1 (by decide)
  exact Int.le_trans h4 (by decide)) q
/-! ### the bag: n more draws may come -/
def bagL (p : Addr) (i r sd c : Int) : List V := [.ref p, .int i, .int r, .int sd, .int c]
structure Bag (n : Nat) (H : Hp) (B p : Addr) : Prop where
  ex : ∃ (ns : List Int) (i r sd c : Int), H B = some (.lst (bagL p i r sd c)) ∧ H p = some (.lst (ns.map V.int)) ∧ p ≠ B ∧ 0 ≤ i ∧ 0 ≤ r ∧ 0 ≤ sd ∧ sd < 2305843009213693951 ∧ 0 ≤ c ∧ c + n ≤ 1000000
/-- all but the bag stands -/
def But (B : Addr) (H H' : Hp) : Prop := ∀ b o, b ≠ B → H b = some o → H' b = some o
theorem But.refl {B : Addr} {H : Hp} : But B H H := fun _ _ _ h => h
theorem But.trans {B : Addr} {H H1 H2 : Hp} (a : But B H H1) (b : But B H1 H2) : But B H H2 := fun x o n h => b x o n (a x o n h)
theorem But.new {B : Addr} {H : Hp} {p : Addr} {o : HO} (h : H p = none) : But B H (upd H p o) := fun b u _ q => by rw [upd_ne (ne_of_none q h)]; exact q
theorem But.same {B : Addr} {H H' : Hp} (h : Same H H') : But B H H' := fun b o _ q => h b o q
theorem Bag.same {n : Nat} {H H' : Hp} {B p : Addr} (b : Bag n H B p) (h : Same H H') : Bag n H' B p := by
  obtain ⟨ns, i, r, sd, c, h1, h2, h3⟩ := b.ex
  exact ⟨ns, i, r, sd, c, h _ _ h1, h _ _ h2, h3⟩
theorem Bag.less {n m : Nat} {H : Hp} {B p : Addr} (b : Bag n H B p) (h : m ≤ n) : Bag m H B p := by
  obtain ⟨ns, i, r, sd, c, h1, h2, h3, h4, h5, h6, h7, h8, h9⟩ := b.ex
  exact ⟨ns, i, r, sd, c, h1, h2, h3, h4, h5, h6, h7, h8, by omega⟩
def spDraw : Sp := fun vs H Q _ => ∃ (n : Nat) (B p : Addr) (L : Int), vs = [.ref B, .int L] ∧ 0 < L ∧ L < 1073741824 ∧ Bag (n + 1) H B p ∧
  ∀ H' k, Bag n H' B p → But B H H' → 0 ≤ k → k < L → Q (.int k) H'
section
variable {P : Program} {w : World} {K : PySem.W.Frag} {mg : Str → Option Value} {base : Heap} {f : Addr} {fd : FuncData}
abbrev nDr : List Str := ["_law_bag_here", "_law_many_y", "_law_cell", "_law_digit"]
theorem scDraw : FnScope nDr ["_law_bag_here", "_law_many_y"] (defScope L_draw) := ⟨rfl, rfl, rfl, by decide +kernel, rfl, by decide +kernel, by decide +kernel⟩
theorem pow_bd {x : Int} {n : Nat} (h : x.natAbs < 2 ^ n) (hn : n ≤ 200) : CPowL x 3 := ⟨by decide, by decide, Nat.lt_of_lt_of_le h (Nat.pow_le_pow_right (by decide) hn)⟩
theorem ok_draw (F : Fun K "_law_draw" "_law_draw" L_draw f fd) (ml : mg "len" = none) (mi : mg "int" = none) : FnOk P w K mg base CX0 1 f fd ["_law_bag_here", "_law_many_y"] spDraw := by
  refine F.ok scDraw (fun vs H Q E h => ?_) (fun cdv A outer s H vs Q E hr h => ?_)
  · obtain ⟨n, B, p, L, rfl, _⟩ := h
    rfl
  obtain ⟨n, B, p, L, rfl, l1, l2, hb, q⟩ := h
  obtain ⟨ns, i, r, sd, c, hB, hp, np, i0, r0, s0, s1, c0, cn⟩ := hb.ex
  have cn' : c + 1 + (n : Int) ≤ 1000000 := by omega
  refine ⟨_, pss_cons (ps_asg (pe_op op_add (pe_ix ix_list (pv 0) pe_int (fun _ _ => rfl)) pe_int) (pg_sub (pv 0) pe_int set_list))
    (C8.pss_cut (ps_if (PW.pt (pw_and (pt_cmpR op_eq (pe_ix ix_list (pv 0) pe_int (fun _ _ => rfl)) pe_int (nomark _)) (pw_and1 (pt_cmpR op_lt (pe_ix ix_list (pv 0) pe_int (fun _ _ => rfl)) (pe_callB call_len_seq rfl ml PySem.boot_len (pa_cons (pe_ix ix_list (pv 0) pe_int (fun _ _ => rfl)) pa_nil)) (nomark _)))))
        (pss_cons (ps_set (i := 2) scDraw.nd rfl (Or.inl rfl) (pe_callTy call_int1 rfl mi (by decide +kernel) (pa_cons (pe_ix ix_list (pe_ix ix_list (pv 0) pe_int (fun _ _ => rfl)) (pe_ix ix_list (pv 0) pe_int (fun _ _ => rfl)) (fun _ _ => rfl)) pa_nil)))
        (pss_cons (ps_asg (pe_op op_add (pe_ix ix_list (pv 0) pe_int (fun _ _ => rfl)) pe_int) (pg_sub (pv 0) pe_int set_list))
        (pss_one (ps_if (pt_cmpR op_ge (pv 2) (pe_op op_pow pe_int pe_int) (nomark _))
          (pss_one (ps_asg (pv 2) (pg_sub (pv 0) pe_int set_list)))
          (pss_one (ps_asg (pe_op op_mod (pe_callTy call_int1 rfl mi (by decide +kernel) (pa_cons (pe_op op_powL (pe_op op_add (pe_op op_add (pe_ix ix_list (pv 0) pe_int (fun _ _ => rfl)) (pe_op op_mul (pe_op op_mod (pe_callTy call_int1 rfl mi (by decide +kernel) (pa_cons (pv 2) pa_nil)) pe_int) pe_int)) pe_int) pe_int) pa_nil)) pe_int) (pg_sub (pv 0) pe_int set_list)))))))
        pss_nil)
    (pss_cons (ps_if (pt_cmpR op_gt (pe_ix ix_list (pv 0) pe_int (fun _ _ => rfl)) pe_int (nomark _))
        (pss_cons (ps_set (i := 3) scDraw.nd rfl (Or.inl rfl) (pe_op op_mod (pe_callTy call_int1 rfl mi (by decide +kernel) (pa_cons (pe_ix ix_list (pv 0) pe_int (fun _ _ => rfl)) pa_nil)) (pv 1)))
        (pss_cons (ps_asg (pe_op op_fdiv (pe_callTy call_int1 rfl mi (by decide +kernel) (pa_cons (pe_ix ix_list (pv 0) pe_int (fun _ _ => rfl)) pa_nil)) (pv 1)) (pg_sub (pv 0) pe_int set_list))
        (pss_one (ps_ret (pv 3)))))
        pss_nil)
    (pss_cons (ps_asg (pe_op op_mod (pe_callTy call_int1 rfl mi (by decide +kernel) (pa_cons (pe_op op_powL (pe_op op_add (pe_op op_add (pe_ix ix_list (pv 0) pe_int (fun _ _ => rfl)) (pe_op op_mul (pe_ix ix_list (pv 0) pe_int (fun _ _ => rfl)) pe_int)) pe_int) pe_int) pa_nil)) pe_int) (pg_sub (pv 0) pe_int set_list))
    (pss_one (ps_ret (pe_op op_mod (pe_callTy call_int1 rfl mi (by decide +kernel) (pa_cons (pe_op op_fdivW (pe_ix ix_list (pv 0) pe_int (fun _ _ => rfl)) pe_int) pa_nil)) (pv 1))))))), ?_⟩
  refine ⟨_, rfl, B, _, 4, _, rfl, rfl, SqL.of hB, rfl, c, 1, rfl, rfl, _, rfl, B, _, 4, 4, rfl, rfl, hB, rfl, ?_⟩
  have e1 : (bagL p i r sd c).set 4 (.int (c + 1)) = bagL p i r sd (c + 1) := rfl
  have hB1 : (upd H B (.lst ((bagL p i r sd c).set 4 (.int (c + 1))))) B = some (.lst (bagL p i r sd (c + 1))) := upd_same
  have hp1 : (upd H B (.lst ((bagL p i r sd c).set 4 (.int (c + 1))))) p = some (.lst (ns.map V.int)) := by rw [upd_ne np]; exact hp
  have b1 : But B H (upd H B (.lst ((bagL p i r sd c).set 4 (.int (c + 1))))) := fun b o n z => by rw [upd_ne n]; exact z
  generalize upd H B (.lst ((bagL p i r sd c).set 4 (.int (c + 1)))) = H1 at hB1 hp1 b1 ⊢
  refine ⟨fun σ' H' => ∃ (i r sd : Int) (v w : Option V), σ' = [some (.ref B), some (.int L), v, w] ∧ H' B = some (.lst (bagL p i r sd (c + 1))) ∧ H' p = some (.lst (ns.map V.int)) ∧ But B H H' ∧ 0 ≤ i ∧ 0 ≤ r ∧ 0 ≤ sd ∧ sd < 2305843009213693951, ?_, ?_⟩
  · refine ⟨_, rfl, B, _, 2, _, rfl, rfl, SqL.of hB1, rfl, rfl, _, rfl, ?_⟩
    refine ite2 (fun _ => ?_) (fun _ => iteF ⟨i, r, sd, none, none, rfl, hB1, hp1, b1, i0, r0, s0, s1⟩)
    refine ⟨_, rfl, B, _, 1, _, rfl, rfl, SqL.of hB1, rfl, _, rfl, B, _, 0, _, rfl, rfl, SqL.of hB1, rfl, p, _, rfl, .inl (SqL.of hp1), i, _, rfl, rfl, _, rfl, ?_⟩
    refine ite2 (fun c1 => ?_) (fun _ => ⟨i, r, sd, none, none, rfl, hB1, hp1, b1, i0, r0, s0, s1⟩)
    have c2 : i < (((ns.map V.int).length : Nat) : Int) := of_decide_eq_true c1
    rw [List.length_map] at c2
    have hz : (ns.map V.int)[i.toNat]? = some (.int (ns[i.toNat]'(by omega))) := by rw [List.getElem?_map, List.getElem?_eq_getElem (by omega)]; rfl
    generalize ns[i.toNat]'(by omega) = z at hz
    have ha : atI (ns.map V.int) i = some (.int z) := at_of (by omega) hz
    refine ⟨_, rfl, B, _, 0, _, rfl, rfl, SqL.of hB1, rfl, _, rfl, B, _, 1, _, rfl, rfl, SqL.of hB1, rfl, p, _, i, _, rfl, rfl, SqL.of hp1, ha, .inl ⟨z, rfl, ?_⟩⟩
    refine ⟨_, rfl, B, _, 1, _, rfl, rfl, SqL.of hB1, rfl, i, 1, rfl, rfl, _, rfl, B, _, 1, 1, rfl, rfl, hB1, rfl, ?_⟩
    have hB2 : (upd H1 B (.lst ((bagL p i r sd (c + 1)).set 1 (.int (i + 1))))) B = some (.lst (bagL p (i + 1) r sd (c + 1))) := upd_same
    have hp2 : (upd H1 B (.lst ((bagL p i r sd (c + 1)).set 1 (.int (i + 1))))) p = some (.lst (ns.map V.int)) := by rw [upd_ne np]; exact hp1
    have b2 : But B H (upd H1 B (.lst ((bagL p i r sd (c + 1)).set 1 (.int (i + 1))))) := b1.trans fun b o n z => by rw [upd_ne n]; exact z
    generalize upd H1 B (.lst ((bagL p i r sd (c + 1)).set 1 (.int (i + 1)))) = H2 at hB2 hp2 b2 ⊢
    refine ⟨_, rfl, 10, 18, rfl, rfl, ⟨by decide, by decide, by decide⟩, z, _, rfl, rfl, _, rfl, ?_⟩
    refine ite2 (fun c3 => ?_) (fun _ => ?_)
    · have c4 : (10 : Int) ^ (18 : Int).toNat ≤ z := of_decide_eq_true c3
      refine ⟨_, rfl, _, rfl, B, _, 2, 2, rfl, rfl, hB2, rfl, i + 1, z, sd, some (.int z), none, rfl, upd_same, by rw [upd_ne np]; exact hp2, b2.trans fun b o n z => by rw [upd_ne n]; exact z, by omega, ?_, s0, s1⟩
      exact Int.le_trans (by decide) c4
    · refine ⟨_, rfl, B, _, 3, _, rfl, rfl, SqL.of hB2, rfl, _, rfl, .inl ⟨z, rfl, ?_⟩⟩
      have v0 := Int.emod_nonneg z (show (2305843009213693921 : Int) ≠ 0 by decide)
      have v1 := Int.emod_lt_of_pos z (show (0 : Int) < 2305843009213693921 by decide)
      refine ⟨z, 2305843009213693921, rfl, rfl, (by show (0 : Int) < 2305843009213693921; decide), _, 11, rfl, rfl, .inr ⟨by decide, by decide⟩, sd, _, rfl, rfl, _, 41, rfl, rfl, _, 3, rfl, rfl, ?_, .inl ⟨_, rfl, ?_⟩⟩
      · exact pow_bd (n := 70) (by omega) (by decide)
      refine ⟨_, 2305843009213693951, rfl, rfl, (by show (0 : Int) < 2305843009213693951; decide), _, rfl, B, _, 3, 3, rfl, rfl, hB2, rfl, i + 1, r, _, some (.int z), none, rfl, upd_same, by rw [upd_ne np]; exact hp2, b2.trans fun b o n z => by rw [upd_ne n]; exact z, by omega, r0, Int.emod_nonneg _ (by decide), Int.emod_lt_of_pos _ (by decide)⟩
  · rintro σ' H' ⟨i, r, sd, v, w', rfl, hB2, hp2, b2, i0, r0, s0, s1⟩
    refine ⟨_, rfl, B, _, 2, _, rfl, rfl, SqL.of hB2, rfl, r, 0, rfl, rfl, _, rfl, ?_⟩
    refine ite2 (fun _ => ?_) (fun _ => ?_)
    · refine ⟨_, rfl, B, _, 2, _, rfl, rfl, SqL.of hB2, rfl, .inl ⟨r, rfl, _, rfl, r, L, rfl, rfl, l1, ?_⟩⟩
      refine ⟨_, rfl, B, _, 2, _, rfl, rfl, SqL.of hB2, rfl, .inl ⟨r, rfl, _, rfl, r, L, rfl, rfl, ⟨l1, l2⟩, _, rfl, B, _, 2, 2, rfl, rfl, hB2, rfl, ?_⟩⟩
      refine ⟨_, rfl, q _ _ ⟨ns, i, r / L, sd, c + 1, upd_same, by rw [upd_ne np]; exact hp2, np, i0, Int.ediv_nonneg r0 (by omega), s0, s1, by omega, by omega⟩ (b2.trans fun b o n z => by rw [upd_ne n]; exact z) (Int.emod_nonneg _ (by omega)) (Int.emod_lt_of_pos _ l1)⟩
    · refine ⟨_, rfl, B, _, 3, _, rfl, rfl, SqL.of hB2, rfl, _, rfl, B, _, 4, _, rfl, rfl, SqL.of hB2, rfl, c + 1, 1000003, rfl, rfl, .inr ⟨by decide, by decide⟩, sd, _, rfl, rfl, _, 31, rfl, rfl, _, 3, rfl, rfl, ?_, .inl ⟨_, rfl, ?_⟩⟩
      · exact pow_bd (n := 70) (by omega) (by decide)
      refine ⟨_, 2305843009213693951, rfl, rfl, (by show (0 : Int) < 2305843009213693951; decide), _, rfl, B, _, 3, 3, rfl, rfl, hB2, rfl, ?_⟩
      have v0 := Int.emod_nonneg ((sd + (c + 1) * 1000003 + 31) ^ Int.toNat 3) (show (2305843009213693951 : Int) ≠ 0 by decide)
      have v1 := Int.emod_lt_of_pos ((sd + (c + 1) * 1000003 + 31) ^ Int.toNat 3) (show (0 : Int) < 2305843009213693951 by decide)
      have hB3 : (upd H' B (.lst ((bagL p i r sd (c + 1)).set 3 (.int ((sd + (c + 1) * 1000003 + 31) ^ Int.toNat 3 % 2305843009213693951))))) B = some (.lst (bagL p i r ((sd + (c + 1) * 1000003 + 31) ^ Int.toNat 3 % 2305843009213693951) (c + 1))) := upd_same
      have hp3 : (upd H' B (.lst ((bagL p i r sd (c + 1)).set 3 (.int ((sd + (c + 1) * 1000003 + 31) ^ Int.toNat 3 % 2305843009213693951))))) p = some (.lst (ns.map V.int)) := by rw [upd_ne np]; exact hp2
      have b3 : But B H (upd H' B (.lst ((bagL p i r sd (c + 1)).set 3 (.int ((sd + (c + 1) * 1000003 + 31) ^ Int.toNat 3 % 2305843009213693951))))) := b2.trans fun b o n z => by rw [upd_ne n]; exact z
      refine ⟨_, rfl, B, _, 3, _, rfl, rfl, SqL.of hB3, rfl, _, 1073741827, rfl, rfl, ⟨by decide, by decide⟩, .inl ⟨_, rfl, _, rfl, _, L, rfl, rfl, l1, ?_⟩⟩
      exact q _ _ ⟨ns, i, r, _, c + 1, hB3, hp3, np, i0, r0, v0, v1, by omega, by omega⟩ b3 (Int.emod_nonneg _ (by omega)) (Int.emod_lt_of_pos _ l1)
end
end Kx
end
section
set_option maxHeartbeats 4000000
namespace Kx
open PySem PySem.Spec PyProof.Rows L2
theorem cut_map (ns : List Int) (lo hi : Option Int) : ∃ ms : List Int, cutV (ns.map V.int) lo hi = ms.map V.int := by
  unfold cutV
  rw [List.length_map, ← List.map_drop, ← List.map_take]
  exact ⟨_, rfl⟩
def spBag (K : PySem.W.Frag) : Sp := fun vs H Q _ => ∃ (a : Addr) (ns : List Int), vs = [.ref a] ∧ SqL K H a (ns.map V.int) ∧ ∀ H' B p, Same H H' → H B = none → Bag 1000000 H' B p → Q (.ref B) H'
theorem new_same {H : Hp} {p : Addr} (h : H p = none) (o : HO) : Same H (upd H p o) := fun b u q => by rw [upd_ne (ne_of_none q h)]; exact q
section
variable {P : Program} {w : World} {K : PySem.W.Frag} {mg : Str → Option Value} {base : Heap} {f fD : Addr} {fd fdD : FuncData}
theorem scBag : FnScope ["_law_script", "_law_mixed", "_law_cell"] ["_law_script"] (defScope L_bag) := ⟨rfl, rfl, rfl, by decide +kernel, rfl, by decide +kernel, by decide +kernel⟩
theorem ok_bag (F : Fun K "_law_bag" "_law_bag" L_bag f fd) (ml : mg "list" = none) (mi : mg "int" = none) : FnOk P w K mg base CX0 1 f fd ["_law_script"] (spBag K) := by
  refine F.ok scBag (fun vs H Q E h => ?_) (fun cdv A outer s H vs Q E hr h => ?_)
  · obtain ⟨a, ns, rfl, _⟩ := h
    rfl
  obtain ⟨a, ns, rfl, hS, q⟩ := h
  obtain ⟨ms, hm⟩ := cut_map ns none (some 63)
  refine ⟨_, pss_cons (ps_set (i := 1) scBag.nd rfl (Or.inl rfl) pe_int)
    (pss_cons (ps_for PassesOwn.never rfl (pi_list (pe_slice sl_list (pv 0) po_none (po_some pe_int))) (pg_name (i := 2) scBag.nd rfl (Or.inl rfl))
      (pss_one (ps_set (i := 1) scBag.nd rfl (Or.inl rfl) (pe_op op_mod (pe_callTy call_int1 rfl mi (by decide +kernel) (pa_cons (pe_op op_powL (pe_op op_add (pe_op op_add (pv 1) (pe_op op_mod (pe_callTy call_int1 rfl mi (by decide +kernel) (pa_cons (pv 2) pa_nil)) pe_int)) pe_int) pe_int) pa_nil)) pe_int))))
    (pss_one (ps_ret (pe_lst (pa_cons (pe_callTy call_list_of rfl ml (by decide +kernel) (pa_cons (pe_slice sl_list (pv 0) po_none (po_some pe_int)) pa_nil)) (pa_cons pe_int (pa_cons pe_int (pa_cons (pv 1) (pa_cons pe_int pa_nil))))))))), ?_⟩
  refine ⟨_, rfl, 63, rfl, a, _, rfl, hS, fun p np => ⟨p, rfl, ⟨_, SqL.of upd_same⟩, for_list (K := K) (a := p) (xs := cutV (ns.map V.int) none (some 63))
    (fun i σ H' => ∃ (sd : Int) (v : Option V), σ = [some (.ref a), some (.int sd), v] ∧ 0 ≤ sd ∧ sd < 2305843009213693951 ∧ H' = upd H p (.lst (cutV (ns.map V.int) none (some 63)))) ⟨13960, none, rfl, by decide, by decide, rfl⟩ (fun i σ H' _ h => ?_) ?_ ?_⟩⟩
  · obtain ⟨_, _, _, _, _, rfl⟩ := h
    exact SqL.of upd_same
  · rintro i y σ H' hy ⟨sd, v, rfl, s0, s1, rfl⟩
    obtain ⟨z, rfl⟩ : ∃ z, y = V.int z := by
      rw [hm, List.getElem?_map] at hy
      obtain ⟨z, _, e⟩ := Option.map_eq_some_iff.mp hy
      exact ⟨z, e.symm⟩
    have v0 := Int.emod_nonneg z (show (2305843009213693921 : Int) ≠ 0 by decide)
    have v1 := Int.emod_lt_of_pos z (show (0 : Int) < 2305843009213693921 by decide)
    refine ⟨_, rfl, _, rfl, .inl ⟨z, rfl, z, 2305843009213693921, rfl, rfl, (by show (0 : Int) < 2305843009213693921; decide), sd, _, rfl, rfl, _, 389, rfl, rfl, _, 3, rfl, rfl, ?_, .inl ⟨_, rfl, _, 2305843009213693951, rfl, rfl, (by show (0 : Int) < 2305843009213693951; decide), ?_⟩⟩⟩
    · exact pow_bd (n := 70) (by omega) (by decide)
    exact ⟨_, _, rfl, Int.emod_nonneg _ (by decide), Int.emod_lt_of_pos _ (by decide), rfl⟩
  · rintro σ H' ⟨sd, v, rfl, s0, s1, rfl⟩
    have g1 : Same H (upd H p (.lst (cutV (ns.map V.int) none (some 63)))) := new_same np _
    generalize upd H p (.lst (cutV (ns.map V.int) none (some 63))) = H1 at g1
    refine ⟨_, rfl, 63, rfl, a, _, rfl, g1.seq hS, fun p2 np2 => ⟨p2, _, rfl, .inl (SqL.of upd_same), fun l nl => ?_⟩⟩
    have g2 := g1.trans (new_same np2 (.lst (cutV (ns.map V.int) none (some 63))))
    generalize upd H1 p2 (.lst (cutV (ns.map V.int) none (some 63))) = H2 at g2 nl
    have g3 := g2.trans (new_same nl (.lst (cutV (ns.map V.int) none (some 63))))
    have hl : (upd H2 l (.lst (cutV (ns.map V.int) none (some 63)))) l = some (.lst (ms.map V.int)) := by rw [upd_same, hm]
    generalize upd H2 l (.lst (cutV (ns.map V.int) none (some 63))) = H3 at g3 hl
    refine ⟨_, rfl, (by show 5 ≤ sizeLine; decide), fun B nB => q _ B l (g3.trans (new_same nB _)) (g3.free nB) ⟨ms, 0, 0, sd, 0, upd_same, ?_, ?_, by decide, by decide, s0, s1, by decide, by decide⟩⟩
    · rw [upd_ne (ne_of_none hl nB)]
      exact hl
    · exact ne_of_none hl nB
/-! ### one of several -/
def spOfL : Sp := fun vs H Q _ => ∃ (n : Nat) (B p t : Addr) (xs : List V), vs = [.ref B, .ref t] ∧ H t = some (.lst xs) ∧ t ≠ B ∧ 0 < xs.length ∧ xs.length ≤ 1000 ∧ Bag (n + 1) H B p ∧ ∀ H' x, Bag n H' B p → But B H H' → x ∈ xs → Q x H'
theorem scOf : FnScope ["_law_bag_here", "_law_things"] ["_law_bag_here", "_law_things"] (defScope L_of) := ⟨rfl, rfl, rfl, by decide +kernel, rfl, by decide +kernel, by decide +kernel⟩
theorem at_in {xs : List V} {k : Int} (h0 : 0 ≤ k) (h1 : k < (xs.length : Int)) : ∃ x, atI xs k = some x ∧ x ∈ xs := by
  have hk : k.toNat < xs.length := by omega
  exact ⟨xs[k.toNat], at_of (by omega) (List.getElem?_eq_getElem hk), List.getElem_mem hk⟩
theorem ok_ofL (F : Fun K "_law_of" "_law_of" L_of f fd) (G : FnOk P w K mg base CX0 1 fD fdD ["_law_bag_here", "_law_many_y"] spDraw) (bD : Binds K fdD ["_law_bag_here", "_law_many_y"] []) (kD : PySem.W.keepIn K (.ref fD) = true) (mD : mg "_law_draw" = some (.ref fD)) (ml : mg "len" = none) :
    FnOk P w K mg base CX0 2 f fd ["_law_bag_here", "_law_things"] spOfL := by
  refine F.ok scOf (fun vs H Q E h => ?_) (fun cdv A outer s H vs Q E hr h => ?_)
  · obtain ⟨n, B, p, t, xs, rfl, _⟩ := h
    rfl
  obtain ⟨n, B, p, t, xs, rfl, ht, nt, l0, l1, hb, q⟩ := h
  refine ⟨_, pss_one (ps_ret (pe_ix ix_list (pv 1) (pe_call G hr rfl mD kD bD .nil pass0 (pa_cons (pv 0) (pa_cons (pe_callB call_len_seq rfl ml PySem.boot_len (pa_cons (pv 1) pa_nil)) pa_nil))) (fun _ _ => rfl))), ?_⟩
  refine ⟨_, rfl, _, rfl, _, rfl, t, _, rfl, .inl (SqL.of ht), n, B, p, _, rfl, by omega, by omega, hb, fun H' k b' u k0 k1 => ?_⟩
  obtain ⟨x, hx, hm⟩ := at_in k0 k1
  exact ⟨t, xs, k, x, rfl, rfl, SqL.of (u _ _ nt ht), hx, q H' x b' u hm⟩
end
end Kx
end
section
set_option maxHeartbeats 4000000
namespace Kx
open PySem PySem.Spec PyProof.Rows L2
/-- // by any divisor but 0, below 2 ^ 9000 -/
theorem op_fdivA {X : Cx} : OpR X (binaryOp .FloorDiv) (rI (fun _ j => j ≠ 0 ∧ j.natAbs.log2 < 9000) fun i j => .int (i.fdiv j)) := opI fun _ _ _ _ _ _ _ hc q => floordiv_int hc.1 q (.inl (PyProof.noPylong_of_log2 hc.2))
/-- the greatest common divisor, with the sign of q -/
def gS (p q : Int) : Int := if q < 0 then -((Nat.gcd p.natAbs q.natAbs : Nat) : Int) else ((Nat.gcd p.natAbs q.natAbs : Nat) : Int)
/-- p over q in lowest terms, above and below -/
def lowU (p q : Int) : Int := p.fdiv (gS p q)
def lowL (p q : Int) : Int := q.fdiv (gS p q)
theorem gS_ne {p q : Int} (h : q ≠ 0) : gS p q ≠ 0 := by
  have g : Nat.gcd p.natAbs q.natAbs ≠ 0 := fun e => h (Int.natAbs_eq_zero.mp (Nat.eq_zero_of_gcd_eq_zero_right e))
  unfold gS
  split <;> omega
theorem gS_abs (p q : Int) : (gS p q).natAbs = Nat.gcd p.natAbs q.natAbs := by
  unfold gS
  split <;> omega
theorem gS_le {p q : Int} (h : q ≠ 0) : (gS p q).natAbs ≤ q.natAbs := by
  rw [gS_abs]
  exact Nat.gcd_le_right _ (Nat.pos_of_ne_zero (fun e => h (Int.natAbs_eq_zero.mp e)))
theorem log_le {a b : Nat} (h : a ≤ b) : a.log2 ≤ b.log2 := by
  by_cases e : a = 0
  · subst e
    rw [Nat.log2_zero]
    omega
  · have := Nat.log2_self_le e
    exact (Nat.le_log2 (by omega)).mpr (Nat.le_trans this h)
theorem abs_nat (i : Int) : (if i < 0 then -i else i) = ((i.natAbs : Nat) : Int) := by
  split <;> omega
def spLow : Sp := fun vs H Q _ => ∃ p q : Int, vs = [.int p, .int q] ∧ q ≠ 0 ∧ q.natAbs.log2 < 9000 ∧ ∀ t, H t = none → Q (.ref t) (upd H t (.tup [.int (lowU p q), .int (lowL p q)]))
section
variable {P : Program} {w : World} {K : PySem.W.Frag} {mg : Str → Option Value} {base : Heap} {f : Addr} {fd : FuncData}
end
end Kx
end
section
set_option maxHeartbeats 4000000
namespace Kx
open PySem PySem.Spec PyProof.Rows L2
theorem low_rat {p q : Int} (h : q ≠ 0) : lowU p q = (Rat.divInt p q).num ∧ lowL p q = ((Rat.divInt p q).den : Int) := by
  have g0 : 0 < Nat.gcd p.natAbs q.natAbs := Nat.gcd_pos_of_pos_right _ (Nat.pos_of_ne_zero fun e => h (Int.natAbs_eq_zero.mp e))
  obtain ⟨a, ha⟩ : ((Nat.gcd p.natAbs q.natAbs : Nat) : Int) ∣ p := Int.ofNat_dvd_left.mpr (Nat.gcd_dvd_left _ _)
  obtain ⟨b, hb⟩ : ((Nat.gcd p.natAbs q.natAbs : Nat) : Int) ∣ q := Int.ofNat_dvd_left.mpr (Nat.gcd_dvd_right _ _)
  have gi : (0 : Int) < ((Nat.gcd p.natAbs q.natAbs : Nat) : Int) := by omega
  have gc : Int.gcd q p = Nat.gcd p.natAbs q.natAbs := Nat.gcd_comm _ _
  have key : gS p q = q.sign * ((Nat.gcd p.natAbs q.natAbs : Nat) : Int) ∧ (q.sign = 1 ∨ q.sign = -1) ∧ (q.natAbs : Int) = q.sign * q := by
    unfold gS
    by_cases c : q < 0
    · rw [if_pos c, Int.sign_eq_neg_one_of_neg c]
      omega
    · have c2 : 0 < q := by omega
      rw [if_neg c, Int.sign_eq_one_of_pos c2]
      omega
  obtain ⟨hg, hs, hab⟩ := key
  rw [Rat.num_divInt, Rat.den_divInt, if_neg h, gc]
  unfold lowU lowL
  rw [hg]
  generalize q.sign = s at hs hab ⊢
  generalize ((Nat.gcd p.natAbs q.natAbs : Nat)) = g at *
  have ne : s * (g : Int) ≠ 0 := by rcases hs with rfl | rfl <;> omega
  have dv : ∀ x y : Int, x = (g : Int) * y → x.fdiv (s * g) = s * y := fun x y e => by
    have z : (g : Int) * y = s * (g : Int) * (s * y) := by
      rcases hs with rfl | rfl
      · simp
      · rw [Int.neg_one_mul, Int.neg_one_mul, Int.neg_mul_neg]
    rw [e, z]
    exact Int.mul_fdiv_cancel_left _ ne
  rw [dv p a ha, dv q b hb]
  constructor
  · have e : s * p = (g : Int) * (s * a) := by rw [ha, Int.mul_left_comm]
    rw [e, Int.mul_ediv_cancel_left _ (by omega)]
  · rw [Int.natCast_ediv, hab]
    have e : s * q = (g : Int) * (s * b) := by rw [hb, Int.mul_left_comm]
    rw [e, Int.mul_ediv_cancel_left _ (by omega)]
/-- above and below less than 2 ^ n -/
def Bq (n : Nat) (q : Rat) : Prop := q.num.natAbs < 2 ^ n ∧ q.den < 2 ^ n
theorem Bq.mono {n m : Nat} {q : Rat} (h : Bq n q) (k : n ≤ m) : Bq m q := ⟨Nat.lt_of_lt_of_le h.1 (Nat.pow_le_pow_right (by decide) k), Nat.lt_of_lt_of_le h.2 (Nat.pow_le_pow_right (by decide) k)⟩
theorem div_bd {p q : Int} {n m : Nat} (h : q ≠ 0) (hp : p.natAbs < 2 ^ n) (hq : q.natAbs < 2 ^ m) : (Rat.divInt p q).num.natAbs < 2 ^ n ∧ (Rat.divInt p q).den < 2 ^ m := by
  have g0 : 0 < Int.gcd q p := Int.gcd_pos_of_ne_zero_left _ h
  constructor
  · rw [Rat.num_divInt]
    refine Nat.lt_of_le_of_lt ?_ hp
    have e : (q.sign * p).natAbs = p.natAbs := by
      rw [Int.natAbs_mul, Int.natAbs_sign_of_ne_zero h, Nat.one_mul]
    rw [← e]
    refine Nat.le_trans (Int.natAbs_ediv_le_natAbs _ _) (Nat.le_refl _)
  · rw [Rat.den_divInt, if_neg h]
    exact Nat.lt_of_le_of_lt (Nat.div_le_self _ _) hq
theorem rat_add (a b : Rat) : a + b = Rat.divInt (a.num * b.den + b.num * a.den) (a.den * b.den) := by
  have h1 : (a.den : Int) ≠ 0 := by have := a.den_nz; omega
  have h2 : (b.den : Int) ≠ 0 := by have := b.den_nz; omega
  rw [← Rat.divInt_add_divInt _ _ h1 h2, Rat.num_divInt_den, Rat.num_divInt_den]
theorem rat_mul (a b : Rat) : a * b = Rat.divInt (a.num * b.num) (a.den * b.den) := by
  rw [← Rat.divInt_mul_divInt, Rat.num_divInt_den, Rat.num_divInt_den]
theorem rat_sub (a b : Rat) : a - b = Rat.divInt (a.num * b.den - b.num * a.den) (a.den * b.den) := by
  rw [Rat.sub_eq_add_neg, rat_add, Rat.neg_num, Rat.neg_den, Int.neg_mul, Int.sub_eq_add_neg]
theorem den_ne (a : Rat) : (a.den : Int) ≠ 0 := by have := a.den_nz; omega
theorem lt_add {x y : Int} {n : Nat} (hx : x.natAbs < 2 ^ n) (hy : y.natAbs < 2 ^ n) : (x + y).natAbs < 2 ^ (n + 1) := by
  have := Int.natAbs_add_le x y
  rw [Nat.pow_succ]
  omega
theorem lt_mul {i j : Int} {a b : Nat} (ha : i.natAbs < 2 ^ a) (hb : j.natAbs < 2 ^ b) : (i * j).natAbs < 2 ^ (a + b) := by
  rw [Int.natAbs_mul, Nat.pow_add]
  exact Nat.mul_lt_mul'' ha hb
theorem Bq.dn {n : Nat} {q : Rat} (h : Bq n q) : ((q.den : Int)).natAbs < 2 ^ n := by rw [Int.natAbs_natCast]; exact h.2
theorem Bq.add {n m : Nat} {a b : Rat} (ha : Bq n a) (hb : Bq m b) : Bq (n + m + 1) (a + b) := by
  rw [rat_add]
  have h := div_bd (Int.mul_ne_zero (den_ne a) (den_ne b)) (lt_add (lt_mul ha.1 hb.dn) (by rw [Nat.add_comm]; exact lt_mul hb.1 ha.dn)) (lt_mul ha.dn hb.dn)
  exact ⟨h.1, Nat.lt_of_lt_of_le h.2 (Nat.pow_le_pow_right (by decide) (by omega))⟩
theorem Bq.mul {n m : Nat} {a b : Rat} (ha : Bq n a) (hb : Bq m b) : Bq (n + m) (a * b) := by
  rw [rat_mul]
  exact div_bd (Int.mul_ne_zero (den_ne a) (den_ne b)) (lt_mul ha.1 hb.1) (lt_mul ha.dn hb.dn)
theorem Bq.neg {n : Nat} {a : Rat} (ha : Bq n a) : Bq n (-a) := ⟨by rw [Rat.neg_num, Int.natAbs_neg]; exact ha.1, by rw [Rat.neg_den]; exact ha.2⟩
theorem Bq.sub {n m : Nat} {a b : Rat} (ha : Bq n a) (hb : Bq m b) : Bq (n + m + 1) (a - b) := by
  rw [Rat.sub_eq_add_neg]
  exact ha.add hb.neg
theorem Bq.zero : Bq 1 0 := ⟨by decide, by decide⟩
/-- the sum of the first n products that make the number at the place k -/
def cvT (us ws : List Rat) (k : Nat) : Nat → Rat
  | 0 => 0
  | j + 1 => cvT us ws k j + us.getD j 0 * ws.getD (k - j) 0
def cnv (us ws : List Rat) (k : Nat) : Rat := cvT us ws k (k + 1)
def mulL (us ws : List Rat) : List Rat := (List.range us.length).map (cnv us ws)
def lcmL (l : Nat) : List Rat → Nat
  | [] => l
  | q :: qs => lcmL (Nat.lcm l q.den) qs
theorem lcmL_app (l : Nat) : ∀ (qs rs : List Rat), lcmL l (qs ++ rs) = lcmL (lcmL l qs) rs
  | [], _ => rfl
  | q :: qs, rs => lcmL_app (Nat.lcm l q.den) qs rs
theorem lcmL_dvd : ∀ (qs : List Rat) (l : Nat), l ∣ lcmL l qs ∧ ∀ q ∈ qs, q.den ∣ lcmL l qs
  | [], l => ⟨Nat.dvd_refl _, fun _ h => nomatch h⟩
  | q :: qs, l => by
    have h := lcmL_dvd qs (Nat.lcm l q.den)
    refine ⟨Nat.dvd_trans (Nat.dvd_lcm_left _ _) h.1, fun r hr => ?_⟩
    rcases List.mem_cons.mp hr with rfl | hr
    · exact Nat.dvd_trans (Nat.dvd_lcm_right _ _) h.1
    · exact h.2 r hr
theorem lcmL_pos : ∀ (qs : List Rat) (l : Nat), 0 < l → 0 < lcmL l qs
  | [], _, h => h
  | q :: qs, l, h => lcmL_pos qs _ (Nat.lcm_pos h (Nat.pos_of_ne_zero q.den_nz))
theorem lcmL_bd {n : Nat} : ∀ (qs : List Rat) (l m : Nat), 0 < l → l < 2 ^ m → (∀ q ∈ qs, Bq n q) → lcmL l qs < 2 ^ (m + n * qs.length)
  | [], _, _, _, h, _ => h
  | q :: qs, l, m, h0, h, hb => by
    have hq := (hb q List.mem_cons_self).2
    have e := lcmL_bd qs (Nat.lcm l q.den) (m + n) (Nat.lcm_pos h0 (Nat.pos_of_ne_zero q.den_nz)) (by
      refine Nat.lt_of_le_of_lt (Nat.le_of_dvd (Nat.mul_pos h0 (Nat.pos_of_ne_zero q.den_nz)) (Nat.lcm_dvd_mul _ _)) ?_
      rw [Nat.pow_add]
      exact Nat.mul_lt_mul'' h hq) (fun r hr => hb r (List.mem_cons_of_mem _ hr))
    rw [List.length_cons, Nat.mul_succ]
    rw [show m + (n * qs.length + n) = m + n + n * qs.length by omega]
    exact e
/-- written with one lower part -/
def upL (L : Nat) (qs : List Rat) : List Int := qs.map fun q => q.num * ((L : Int) / (q.den : Int))
theorem up_val {L : Nat} {q : Rat} (h : q.den ∣ L) : ((q.num * ((L : Int) / (q.den : Int)) : Int) : Rat) = q * (L : Rat) := by
  obtain ⟨k, rfl⟩ := h
  have hd : (q.den : Int) ≠ 0 := den_ne q
  have e : (((q.den * k : Nat) : Int) / (q.den : Int)) = (k : Int) := by
    rw [Int.natCast_mul, Int.mul_ediv_cancel_left _ hd]
  have z : q.num = q * q.den := by
    have := Rat.num_divInt_den q
    have h2 : Rat.divInt q.num q.den = (q.num : Rat) / (q.den : Rat) := by rw [Rat.divInt_eq_div]; rfl
    rw [this] at h2
    have h3 : (q.den : Rat) ≠ 0 := by
      intro h0
      have := q.den_nz
      exact this (by exact_mod_cast h0)
    grind
  rw [e, Rat.intCast_mul, z]
  have : (((q.den * k : Nat)) : Rat) = (q.den : Rat) * (k : Rat) := by exact_mod_cast rfl
  rw [this]
  have : ((k : Int) : Rat) = (k : Rat) := rfl
  rw [this]
  grind
theorem getD_up {L : Nat} {qs : List Rat} (h : ∀ q ∈ qs, q.den ∣ L) (j : Nat) : (((upL L qs).getD j 0 : Int) : Rat) = qs.getD j 0 * (L : Rat) := by
  unfold upL
  rw [List.getD_eq_getElem?_getD, List.getElem?_map, List.getD_eq_getElem?_getD]
  cases e : qs[j]? with
  | none => simp
  | some q => exact up_val (h q (List.mem_of_getElem? e))
/-- the products at a place, by whole numbers -/
def pds (xs ys : List Int) (k n : Nat) : List Int := (List.range n).map fun j => xs.getD j 0 * ys.getD (k - j) 0
theorem pds_succ (xs ys : List Int) (k n : Nat) : pds xs ys k (n + 1) = pds xs ys k n ++ [xs.getD n 0 * ys.getD (k - n) 0] := by
  unfold pds
  rw [List.range_succ, List.map_append]
  rfl
theorem pds_val {us ws : List Rat} {L M : Nat} (h : ∀ q ∈ us, q.den ∣ L) (h' : ∀ q ∈ ws, q.den ∣ M) (k : Nat) : ∀ n, (((pds (upL L us) (upL M ws) k n).sum : Int) : Rat) = cvT us ws k n * ((L : Rat) * (M : Rat))
  | 0 => by
    show ((0 : Int) : Rat) = 0 * _
    rw [Rat.zero_mul]
    rfl
  | n + 1 => by
    rw [pds_succ, List.sum_append, Rat.intCast_add, pds_val h h' k n]
    have e : ([(upL L us).getD n 0 * (upL M ws).getD (k - n) 0] : List Int).sum = (upL L us).getD n 0 * (upL M ws).getD (k - n) 0 := by simp
    rw [e, Rat.intCast_mul, getD_up h, getD_up h']
    show _ = (cvT us ws k n + us.getD n 0 * ws.getD (k - n) 0) * _
    grind
theorem cnv_ratio {us ws : List Rat} {L M : Nat} (h : ∀ q ∈ us, q.den ∣ L) (h' : ∀ q ∈ ws, q.den ∣ M) (l0 : 0 < L) (m0 : 0 < M) (k : Nat) :
    Rat.divInt (pds (upL L us) (upL M ws) k (k + 1)).sum ((L : Int) * (M : Int)) = cnv us ws k := by
  rw [Rat.divInt_eq_div, pds_val h h']
  have e : (((L : Int) * (M : Int) : Int) : Rat) = (L : Rat) * (M : Rat) := by rw [Rat.intCast_mul]; rfl
  have lz : (L : Rat) ≠ 0 := by
    intro z
    have : L = 0 := by exact_mod_cast z
    omega
  have mz : (M : Rat) ≠ 0 := by
    intro z
    have : M = 0 := by exact_mod_cast z
    omega
  rw [e]
  unfold cnv
  have : (L : Rat) * (M : Rat) ≠ 0 := by
    intro z
    rcases Rat.mul_eq_zero.mp z with z | z
    · exact lz z
    · exact mz z
  grind
theorem getD_bq {n : Nat} {us : List Rat} (h : ∀ q ∈ us, Bq n q) (n0 : 1 ≤ n) (j : Nat) : Bq n (us.getD j 0) := by
  rw [List.getD_eq_getElem?_getD]
  cases e : us[j]? with
  | none => exact Bq.zero.mono n0
  | some q => exact h q (List.mem_of_getElem? e)
theorem cvT_bd {n m : Nat} {us ws : List Rat} (h : ∀ q ∈ us, Bq n q) (h' : ∀ q ∈ ws, Bq m q) (n0 : 1 ≤ n) (m0 : 1 ≤ m) (k : Nat) : ∀ j, Bq (1 + j * (n + m + 1)) (cvT us ws k j)
  | 0 => by rw [Nat.zero_mul]; exact Bq.zero
  | j + 1 => by
    have := (cvT_bd h h' n0 m0 k j).add ((getD_bq h n0 j).mul (getD_bq h' m0 (k - j)))
    exact this.mono (by rw [Nat.succ_mul]; omega)
/-- the least place, from f on, with a number that is not 0 -/
def hgtN : List Rat → Nat → Option Nat
  | [], _ => none
  | q :: qs, f => if q = 0 then hgtN qs (f + 1) else some f
theorem hgtN_app_zero : ∀ (qs : List Rat) (f : Nat) (rs : List Rat), (∀ q ∈ qs, q = 0) → hgtN (qs ++ rs) f = hgtN rs (f + qs.length)
  | [], f, rs, _ => rfl
  | q :: qs, f, rs, h => by
    show (if q = 0 then hgtN (qs ++ rs) (f + 1) else some f) = _
    rw [if_pos (h q List.mem_cons_self), hgtN_app_zero qs (f + 1) rs (fun r hr => h r (List.mem_cons_of_mem _ hr)), List.length_cons]
    congr 1
    omega
theorem hgtN_shift : ∀ (qs : List Rat) (f : Nat), hgtN qs f = (hgtN qs 0).map (· + f)
  | [], _ => rfl
  | q :: qs, f => by
    show (if q = 0 then hgtN qs (f + 1) else some f) = (if q = 0 then hgtN qs 1 else some 0).map (· + f)
    by_cases h : q = 0
    · rw [if_pos h, if_pos h, hgtN_shift qs (f + 1), hgtN_shift qs 1, Option.map_map]
      congr 1
      funext x
      show x + (f + 1) = x + 1 + f
      omega
    · rw [if_neg h, if_neg h]
      simp
end Kx
end
section
set_option maxHeartbeats 4000000
namespace Kx
/-! ### numbers over a common lower part L, with less than B bits above it -/
def Dq (L B : Nat) (q : Rat) : Prop := ∃ z : Int, q * (L : Rat) = (z : Rat) ∧ z.natAbs < 2 ^ B
def AllD (L B : Nat) (qs : List Rat) : Prop := ∀ q ∈ qs, Dq L B q
/-- such a lower part is small enough for // -/
def SmL (L : Nat) : Prop := 0 < L ∧ L < 2 ^ 4450
/-- a number that + - * may take -/
def Ok (q : Rat) : Prop := q.num.natAbs < 2 ^ 100000 ∧ q.den < 2 ^ 4450
def AllO (qs : List Rat) : Prop := ∀ q ∈ qs, Ok q
theorem natr_ne {L : Nat} (h : 0 < L) : (L : Rat) ≠ 0 := fun z => by
  have : L = 0 := by exact_mod_cast z
  omega
theorem Dq.zero {L B : Nat} : Dq L B 0 := ⟨0, by rw [Rat.zero_mul]; rfl, Nat.pow_pos (by decide)⟩
theorem Dq.neg {L B : Nat} {a : Rat} (h : Dq L B a) : Dq L B (-a) := by
  obtain ⟨z, h, l⟩ := h
  exact ⟨-z, by rw [Rat.neg_mul, h, Rat.intCast_neg], by rw [Int.natAbs_neg]; exact l⟩
theorem Dq.add {L B C D : Nat} {a b : Rat} (ha : Dq L B a) (hb : Dq L C b) (h1 : B < D) (h2 : C < D) : Dq L D (a + b) := by
  obtain ⟨x, hx, lx⟩ := ha
  obtain ⟨y, hy, ly⟩ := hb
  refine ⟨x + y, by rw [Rat.add_mul, hx, hy, Rat.intCast_add], ?_⟩
  obtain ⟨D, rfl⟩ : ∃ d, D = d + 1 := ⟨D - 1, by omega⟩
  have h3 : 2 ^ B ≤ 2 ^ D := Nat.pow_le_pow_right (by decide) (by omega)
  have h4 : 2 ^ C ≤ 2 ^ D := Nat.pow_le_pow_right (by decide) (by omega)
  have := Int.natAbs_add_le x y
  rw [Nat.pow_succ]
  omega
theorem Dq.sub {L B C D : Nat} {a b : Rat} (ha : Dq L B a) (hb : Dq L C b) (h1 : B < D) (h2 : C < D) : Dq L D (a - b) := by
  rw [Rat.sub_eq_add_neg]
  exact ha.add hb.neg h1 h2
theorem Dq.mul {L M B C : Nat} {a b : Rat} (ha : Dq L B a) (hb : Dq M C b) : Dq (L * M) (B + C) (a * b) := by
  obtain ⟨x, hx, lx⟩ := ha
  obtain ⟨y, hy, ly⟩ := hb
  refine ⟨x * y, ?_, lt_mul lx ly⟩
  rw [Rat.intCast_mul, ← hx, ← hy, Rat.natCast_mul]
  grind
theorem Dq.mono {L B C : Nat} {a : Rat} (h : Dq L B a) (l : B ≤ C) : Dq L C a := by
  obtain ⟨z, h, k⟩ := h
  exact ⟨z, h, Nat.lt_of_lt_of_le k (Nat.pow_le_pow_right (by decide) l)⟩
/-- over a greater lower part -/
theorem Dq.up {L M B C : Nat} {a : Rat} (h : Dq L B a) (k : Nat) (e : M = L * k) (l : k ≤ 2 ^ C) : Dq M (B + C) a := by
  subst e
  obtain ⟨z, h, z2⟩ := h
  refine ⟨z * (k : Int), ?_, ?_⟩
  · rw [Rat.intCast_mul, ← h, Rat.natCast_mul]
    have : ((k : Int) : Rat) = (k : Rat) := rfl
    rw [this]
    grind
  · rw [Int.natAbs_mul, Int.natAbs_natCast, Nat.pow_add]
    exact Nat.lt_of_le_of_lt (Nat.mul_le_mul_left _ l) (Nat.mul_lt_mul_of_pos_right z2 (Nat.pow_pos (by decide)))
theorem Dq.one {L B : Nat} (h : L < 2 ^ B) : Dq L B 1 := ⟨(L : Int), by rw [Rat.one_mul]; rfl, by rw [Int.natAbs_natCast]; exact h⟩
theorem Dq.int {L B : Nat} (i : Int) (h : (i * (L : Int)).natAbs < 2 ^ B) : Dq L B (i : Rat) := ⟨i * (L : Int), by rw [Rat.intCast_mul]; rfl, h⟩
theorem Dq.dvd {L B : Nat} {q : Rat} (h : Dq L B q) (l0 : 0 < L) : q.den ∣ L := by
  obtain ⟨z, hz, _⟩ := h
  have i : ((L : Nat) : Int) ≠ 0 := by omega
  have p := natr_ne l0
  have eq : q = Rat.divInt z (L : Int) := by
    rw [Rat.divInt_eq_div, ← hz]
    show q = q * (L : Rat) / (((L : Nat) : Int) : Rat)
    have : (((L : Nat) : Int) : Rat) = (L : Rat) := rfl
    rw [this]
    grind
  rw [eq, Rat.den_divInt, if_neg i, Int.natAbs_natCast]
  exact Nat.div_dvd_of_dvd (Nat.gcd_dvd_left _ _)
/-- over a part of it -/
theorem Dq.part {L M B : Nat} {q : Rat} (h : Dq L B q) (l0 : 0 < L) (l : M ∣ L) {u : Int} (hu : (u : Rat) = q * (M : Rat)) : u.natAbs < 2 ^ B := by
  obtain ⟨z, hz, lz⟩ := h
  obtain ⟨k, rfl⟩ := l
  have k0 : k ≠ 0 := by
    rintro rfl
    rw [Nat.mul_zero] at l0
    omega
  have eq : z = u * (k : Int) := by
    have : ((u * (k : Int) : Int) : Rat) = (z : Rat) := by
      rw [Rat.intCast_mul, hu, ← hz, Rat.natCast_mul]
      have : ((k : Int) : Rat) = (k : Rat) := rfl
      rw [this]
      grind
    exact (by exact_mod_cast this.symm)
  rw [eq, Int.natAbs_mul, Int.natAbs_natCast] at lz
  have h1 : u.natAbs ≤ u.natAbs * k := Nat.le_mul_of_pos_right _ (by omega)
  omega
theorem Dq.num {L B : Nat} {q : Rat} (h : Dq L B q) (l0 : 0 < L) : q.num.natAbs < 2 ^ B := h.part l0 (h.dvd l0) (by
  have := up_val (q := q) (L := q.den) (Nat.dvd_refl _)
  rw [Int.ediv_self (den_ne q), Int.mul_one] at this
  exact this)
theorem Dq.ok {L B : Nat} {q : Rat} (h : Dq L B q) (l : SmL L) (b : B ≤ 100000) : Ok q := ⟨Nat.lt_of_lt_of_le (h.num l.1) (Nat.pow_le_pow_right (by decide) b), Nat.lt_of_le_of_lt (Nat.le_of_dvd l.1 (h.dvd l.1)) l.2⟩
/-- of a number itself -/
theorem Dq.self (q : Rat) {B : Nat} (h : q.num.natAbs < 2 ^ B) : Dq q.den B q := ⟨q.num, by
  have := up_val (q := q) (L := q.den) (Nat.dvd_refl _)
  rw [Int.ediv_self (den_ne q), Int.mul_one] at this
  exact this.symm, h⟩
theorem Ok.dn {q : Rat} (h : Ok q) : ((q.den : Int)).natAbs < 2 ^ 4450 := by rw [Int.natAbs_natCast]; exact h.2
theorem Ok.one : Ok 1 := ⟨Nat.lt_of_lt_of_le (show (1 : Rat).num.natAbs < 2 ^ 1 by decide) (Nat.pow_le_pow_right (by decide) (by decide)), Nat.lt_of_lt_of_le (show (1 : Rat).den < 2 ^ 1 by decide) (Nat.pow_le_pow_right (by decide) (by decide))⟩
theorem Ok.zero : Ok 0 := ⟨Nat.lt_of_lt_of_le (show (0 : Rat).num.natAbs < 2 ^ 1 by decide) (Nat.pow_le_pow_right (by decide) (by decide)), Nat.lt_of_lt_of_le (show (0 : Rat).den < 2 ^ 1 by decide) (Nat.pow_le_pow_right (by decide) (by decide))⟩
theorem AllD.ok {L B : Nat} {qs : List Rat} (h : AllD L B qs) (l : SmL L) (b : B ≤ 100000) : AllO qs := fun q hq => (h q hq).ok l b
theorem AllD.mono {L B C : Nat} {qs : List Rat} (h : AllD L B qs) (l : B ≤ C) : AllD L C qs := fun q hq => (h q hq).mono l
theorem AllD.getD {L B : Nat} {qs : List Rat} (h : AllD L B qs) (j : Nat) : Dq L B (qs.getD j 0) := by
  rw [List.getD_eq_getElem?_getD]
  cases x : qs[j]? with
  | none => exact Dq.zero
  | some q => exact h q (List.mem_of_getElem? x)
theorem AllD.lcm {L B : Nat} (l0 : 0 < L) : ∀ (qs : List Rat) (l : Nat), AllD L B qs → l ∣ L → lcmL l qs ∣ L
  | [], _, _, h => h
  | q :: qs, l, h, d => AllD.lcm l0 qs (Nat.lcm l q.den) (fun r hr => h r (List.mem_cons_of_mem _ hr)) (Nat.lcm_dvd d ((h q List.mem_cons_self).dvd l0))
theorem div_bq {a b : Rat} (h : b ≠ 0) : a / b = Rat.divInt (a.num * b.den) (a.den * b.num) := by
  have h1 := a.den_nz
  have bn : b.num ≠ 0 := fun z => h (Rat.num_eq_zero.mp z)
  rw [Rat.divInt_eq_div, Rat.intCast_mul, Rat.intCast_mul]
  have ha := up_val (q := a) (L := a.den) (Nat.dvd_refl _)
  have hb := up_val (q := b) (L := b.den) (Nat.dvd_refl _)
  rw [Int.ediv_self (den_ne a), Int.mul_one] at ha
  rw [Int.ediv_self (den_ne b), Int.mul_one] at hb
  have e1 : ((b.den : Int) : Rat) = (b.den : Rat) := rfl
  have e2 : ((a.den : Int) : Rat) = (a.den : Rat) := rfl
  have z1 := natr_ne (Nat.pos_of_ne_zero a.den_nz)
  have z2 := natr_ne (Nat.pos_of_ne_zero b.den_nz)
  rw [ha, hb, e1, e2]
  grind
end Kx
end
section
set_option maxHeartbeats 4000000
namespace Kx
open PySem PySem.Spec PyProof.Rows L2
/-! ### numbers -/
structure KP (K : PySem.W.Frag) (a : Addr) (x y : Int) : Prop where
  ex : ∃ (o : Obj) (its : Array Value) (n : Nat), K.lookup a = some o ∧ o.cls = .type "tuple" ∧ o.data = .seq its n ∧ its.size ≤ sizeLine ∧ Vals [.int x, .int y] its.toList
theorem KP.t {K : PySem.W.Frag} {a : Addr} {x y : Int} (k : KP K a x y) (H : Hp) : SqT K H a [.int x, .int y] := .inr k.ex
theorem KP.ty {K : PySem.W.Frag} {a : Addr} {x y : Int} (k : KP K a x y) (H : Hp) : TyX K H (.ref a) (.type "tuple") := by
  obtain ⟨o, its, n, h1, h2, _⟩ := k.ex
  exact .kTuple h1 h2
def rT (r : Rat) : HO := .tup [.int r.num, .int (r.den : Nat)]
/-- the fraction q stands at v, in the heap or in the module -/
def Nq (K : PySem.W.Frag) (H : Hp) (v : V) (q : Rat) : Prop := ∃ a, v = .ref a ∧ (H a = some (rT q) ∨ KP K a q.num (q.den : Nat))
section
variable {K : PySem.W.Frag} {H H' : Hp} {v : V} {q : Rat}
theorem Nq.same (h : Nq K H v q) (s : Same H H') : Nq K H' v q := by
  obtain ⟨a, e, h⟩ := h
  exact ⟨a, e, h.imp (fun h => s _ _ h) id⟩
theorem Nq.sq (h : Nq K H v q) : ∃ a, v = .ref a ∧ SqT K H a [.int q.num, .int (q.den : Nat)] ∧ TyX K H (.ref a) (.type "tuple") := by
  obtain ⟨a, e, h⟩ := h
  rcases h with h | k
  · exact ⟨a, e, SqT.of h, .base (.tup h)⟩
  · exact ⟨a, e, k.t H, k.ty H⟩
theorem Nq.at {t : Addr} (h : H t = some (rT q)) : Nq K H (.ref t) q := ⟨t, rfl, .inl h⟩
theorem Nq.dp (h : Nq K H v q) : Dp K H v (.tuple [.int q.num, .int (q.den : Nat)]) := by
  obtain ⟨a, rfl, s, _⟩ := h.sq
  exact .tup s (.cons (.int _) (.cons (.int _) .nil))
end
/-- a list of numbers -/
def Nl (K : PySem.W.Frag) (H : Hp) (xs : List V) (qs : List Rat) : Prop := xs.length = qs.length ∧ ∀ (i : Nat) (x : V) (q : Rat), xs[i]? = some x → qs[i]? = some q → Nq K H x q
theorem Nl.same {K : PySem.W.Frag} {H H' : Hp} {xs : List V} {qs : List Rat} (h : Nl K H xs qs) (s : Same H H') : Nl K H' xs qs := ⟨h.1, fun i x q h1 h2 => (h.2 i x q h1 h2).same s⟩
theorem Nl.nil {K : PySem.W.Frag} {H : Hp} : Nl K H [] [] := ⟨rfl, fun i x q h => by simp at h⟩
theorem Nl.snoc {K : PySem.W.Frag} {H : Hp} {xs : List V} {qs : List Rat} {x : V} {q : Rat} (h : Nl K H xs qs) (hx : Nq K H x q) : Nl K H (xs ++ [x]) (qs ++ [q]) := by
  refine ⟨by rw [List.length_append, List.length_append, h.1]; rfl, fun i y r h1 h2 => ?_⟩
  by_cases c : i < xs.length
  · rw [List.getElem?_append_left c] at h1
    rw [List.getElem?_append_left (by rw [← h.1]; exact c)] at h2
    exact h.2 i y r h1 h2
  · rw [List.getElem?_append_right (by omega)] at h1
    rw [List.getElem?_append_right (by rw [← h.1]; omega)] at h2
    rw [h.1] at h1
    match hi : i - qs.length, h1, h2 with
    | 0, h1, h2 =>
      rw [← Option.some.inj (show some x = some y from h1), ← Option.some.inj (show some q = some r from h2)]
      exact hx
    | n + 1, h1, _ => simp at h1
theorem Nl.cons {K : PySem.W.Frag} {H : Hp} {xs : List V} {qs : List Rat} {x : V} {q : Rat} (hx : Nq K H x q) (h : Nl K H xs qs) : Nl K H (x :: xs) (q :: qs) := by
  refine ⟨by rw [List.length_cons, List.length_cons, h.1], fun i y r h1 h2 => ?_⟩
  cases i with
  | zero =>
    rw [← Option.some.inj (show some x = some y from h1), ← Option.some.inj (show some q = some r from h2)]
    exact hx
  | succ i => exact h.2 i y r (by simpa using h1) (by simpa using h2)
theorem Nl.tail {K : PySem.W.Frag} {H : Hp} {xs : List V} {qs : List Rat} {x : V} {q : Rat} (h : Nl K H (x :: xs) (q :: qs)) : Nl K H xs qs :=
  ⟨by have := h.1; simp at this; exact this, fun i y r h1 h2 => h.2 (i + 1) y r (by simpa using h1) (by simpa using h2)⟩
theorem Nl.get {K : PySem.W.Frag} {H : Hp} {xs : List V} {qs : List Rat} (h : Nl K H xs qs) {i : Nat} {x : V} (hx : xs[i]? = some x) : ∃ q, qs[i]? = some q ∧ Nq K H x q := by
  have hi : i < xs.length := by
    rcases Nat.lt_or_ge i xs.length with c | c
    · exact c
    · rw [List.getElem?_eq_none c] at hx; cases hx
  have e := List.getElem?_eq_getElem (l := qs) (i := i) (by rw [← h.1]; exact hi)
  exact ⟨_, e, h.2 i x _ hx e⟩
theorem Nl.get' {K : PySem.W.Frag} {H : Hp} {xs : List V} {qs : List Rat} (h : Nl K H xs qs) {i : Nat} (hi : i < qs.length) : ∃ x, xs[i]? = some x ∧ Nq K H x qs[i] := by
  have e := List.getElem?_eq_getElem (l := xs) (i := i) (by rw [h.1]; exact hi)
  exact ⟨_, e, h.2 i _ _ e (List.getElem?_eq_getElem hi)⟩
theorem Nl.app {K : PySem.W.Frag} {H : Hp} {xs ys : List V} {qs rs : List Rat} (h : Nl K H xs qs) (h' : Nl K H ys rs) : Nl K H (xs ++ ys) (qs ++ rs) := by
  refine ⟨by rw [List.length_append, List.length_append, h.1, h'.1], fun i y r h1 h2 => ?_⟩
  by_cases c : i < xs.length
  · rw [List.getElem?_append_left c] at h1
    rw [List.getElem?_append_left (by rw [← h.1]; exact c)] at h2
    exact h.2 i y r h1 h2
  · rw [List.getElem?_append_right (by omega)] at h1
    rw [List.getElem?_append_right (by rw [← h.1]; omega), ← h.1] at h2
    exact h'.2 _ y r h1 h2
theorem Nl.take {K : PySem.W.Frag} {H : Hp} {xs : List V} {qs : List Rat} (h : Nl K H xs qs) (n : Nat) : Nl K H (xs.take n) (qs.take n) := by
  refine ⟨by rw [List.length_take, List.length_take, h.1], fun i y r h1 h2 => ?_⟩
  rw [List.getElem?_take] at h1 h2
  by_cases c : i < n
  · rw [if_pos c] at h1 h2
    exact h.2 i y r h1 h2
  · rw [if_neg c] at h1
    cases h1
theorem Nl.drop {K : PySem.W.Frag} {H : Hp} {xs : List V} {qs : List Rat} (h : Nl K H xs qs) (n : Nat) : Nl K H (xs.drop n) (qs.drop n) := by
  refine ⟨by rw [List.length_drop, List.length_drop, h.1], fun i y r h1 h2 => ?_⟩
  rw [List.getElem?_drop] at h1 h2
  exact h.2 _ y r h1 h2
/-! ### what comes back -/
def GivesQ (H : Hp) (Q : VK) (r : Rat) : Prop := ∀ t H', Same H H' → H t = none → H' t = some (rT r) → Q (.ref t) H'
theorem GivesQ.upd {H : Hp} {Q : VK} {r : Rat} (g : GivesQ H Q r) {t : Addr} (n : H t = none) : Q (.ref t) (upd H t (rT r)) := g t _ (new_same n _) n upd_same
theorem low_HO {p q : Int} (h : q ≠ 0) : HO.tup [.int (lowU p q), .int (lowL p q)] = rT (Rat.divInt p q) := by
  obtain ⟨h1, h2⟩ := low_rat (p := p) h
  rw [h1, h2]
  rfl
theorem div_one (x : Int) : (Rat.divInt x 1).num = x ∧ (Rat.divInt x 1).den = 1 := by
  have e : Rat.divInt x 1 = (x : Rat) := by
    rw [Rat.divInt_eq_div]
    have : ((1 : Int) : Rat) = 1 := rfl
    rw [this]
    grind
  rw [e]
  exact ⟨rfl, rfl⟩
def spLowQ : Sp := fun vs H Q _ => ∃ p q : Int, vs = [.int p, .int q] ∧ q ≠ 0 ∧ q.natAbs.log2 < 9000 ∧ GivesQ H Q (Rat.divInt p q)
theorem log_bd {x : Int} {n : Nat} (h : x.natAbs < 2 ^ n) (h0 : 0 < n) : x.natAbs.log2 < n := PySem.Flt.log2_lt_of h0 h
/-- the law's low -/
abbrev nLow : List Str := ["_law_num_here", "_law_den", "_law_high", "_law_rest"]
def spTwoQ (K : PySem.W.Frag) (op : Rat → Rat → Rat) : Sp := fun vs H Q _ => ∃ (x y : V) (a b : Rat), vs = [x, y] ∧ Nq K H x a ∧ Nq K H y b ∧ Ok a ∧ Ok b ∧ GivesQ H Q (op a b)
def spDivQ (K : PySem.W.Frag) : Sp := fun vs H Q _ => ∃ (x y : V) (a b : Rat), vs = [x, y] ∧ Nq K H x a ∧ Nq K H y b ∧ Ok a ∧ Ok b ∧ b ≠ 0 ∧ b.num.natAbs < 2 ^ 4450 ∧ GivesQ H Q (a / b)
abbrev nPQ : List Str := ["_law_p", "_law_q"]
theorem wide_ok {i j : Int} {a b : Nat} (ha : i.natAbs < 2 ^ a) (hb : j.natAbs < 2 ^ b) (h0 : 0 < a) (h1 : 0 < b) (h : a + b ≤ 1000000) : CMulW i j := wide_mul ha hb h0 h1 h
theorem log_two {i j : Int} (hi : i.natAbs < 2 ^ 4450) (hj : j.natAbs < 2 ^ 4450) : (i * j).natAbs.log2 < 9000 := Nat.lt_trans (log_bd (lt_mul hi hj) (by decide)) (by decide)
section
variable {P : Program} {w : World} {K : PySem.W.Frag} {mg : Str → Option Value} {base : Heap} {f fL : Addr} {fd fdL : FuncData}
theorem scLow : FnScope nLow ["_law_num_here", "_law_den"] (defScope L_low) := ⟨rfl, rfl, rfl, by decide +kernel, rfl, by decide +kernel, by decide +kernel⟩
theorem ok_low (F : Fun K "_law_low" "_law_low" L_low f fd) (ma : mg "abs" = none) (mi : mg "int" = none) : FnOk P w K mg base CX0 1 f fd ["_law_num_here", "_law_den"] spLowQ := by
  refine F.ok scLow (fun vs H Q E h => ?_) (fun cdv A outer s H vs Q E hr h => ?_)
  · obtain ⟨p, q, rfl, _⟩ := h
    rfl
  obtain ⟨p, q, rfl, hq, hl, qq⟩ := h
  refine ⟨_, C8.pss_cut (ps_if (pt_cmpR op_lt (pv 1) pe_int (nomark _)) (pss_one (ps_par (i := 0) (j := 1) rfl scLow.nd rfl rfl (by decide) rfl rfl (pa_cons (pe_un un_neg (pv 0)) (pa_cons (pe_un un_neg (pv 1)) pa_nil)) rfl)) pss_nil)
    (pss_cons (ps_par (i := 2) (j := 3) rfl scLow.nd rfl rfl (by decide) rfl rfl (pa_cons (pe_callB call_abs rfl ma (by decide +kernel) (pa_cons (pv 0) pa_nil)) (pa_cons (pv 1) pa_nil)) rfl)
    (pss_cons (ps_while PassesOwn.never (pt_cmpR op_gt (pv 3) pe_int (nomark _)) (pss_one (ps_par (i := 2) (j := 3) rfl scLow.nd rfl rfl (by decide) rfl rfl (pa_cons (pv 3) (pa_cons (pe_op op_mod (pe_callTy call_int1 rfl mi (by decide +kernel) (pa_cons (pv 2) pa_nil)) (pv 3)) pa_nil)) rfl)))
    (pss_one (ps_ret (pe_tup (pa_cons (pe_op op_fdivA (pv 0) (pv 2)) (pa_cons (pe_op op_fdivA (pv 1) (pv 2)) pa_nil))))))), ?_⟩
  refine ⟨fun σ H' => H' = H ∧ ∃ p' q' : Int, σ = [some (.int p'), some (.int q'), none, none] ∧ 0 < q' ∧ q'.natAbs = q.natAbs ∧ Rat.divInt p' q' = Rat.divInt p q, ?_, ?_⟩
  · refine ⟨_, rfl, q, 0, rfl, rfl, _, rfl, ite2 (fun c => ?_) (fun c => ?_)⟩
    · have c' : q < 0 := of_decide_eq_true c
      exact ⟨_, rfl, p, rfl, _, rfl, q, rfl, _, _, rfl, rfl, -p, -q, rfl, by omega, by omega, Rat.neg_divInt_neg _ _⟩
    · have c' : ¬ q < 0 := of_decide_eq_false (Bool.eq_false_iff.mpr c)
      exact ⟨rfl, p, q, rfl, by omega, rfl, rfl⟩
  rintro σ H' ⟨rfl, p', q', rfl, q0, qa, ed⟩
  rw [← ed] at qq
  rw [← qa] at hl
  clear ed qa hq p q
  refine ⟨_, rfl, p', rfl, _, rfl, _, _, rfl, ?_⟩
  rw [abs_nat]
  refine ⟨fun m σ H2 => H2 = H' ∧ ∃ a b : Nat, σ = [some (.int p'), some (.int q'), some (.int a), some (.int b)] ∧ Nat.gcd a b = Nat.gcd p'.natAbs q'.natAbs ∧ b = m, ⟨q'.natAbs, rfl, p'.natAbs, q'.natAbs, ?_, rfl, rfl⟩, ?_⟩
  · rw [show ((q'.natAbs : Nat) : Int) = q' by omega]
    rfl
  rintro m σ H2 ⟨rfl, a, b, rfl, hg, rfl⟩
  refine ⟨_, rfl, b, 0, rfl, rfl, _, rfl, ite2 (fun c => ?_) (fun c => ?_)⟩
  · have hb : (0 : Int) < (b : Nat) := of_decide_eq_true c
    refine ⟨fun σ' H3 => H3 = H2 ∧ σ' = [some (.int p'), some (.int q'), some (.int b), some (.int ((a % b : Nat) : Int))], ?_, ?_⟩
    · rintro σ' H3 ⟨rfl, rfl⟩
      exact ⟨a % b, Nat.mod_lt _ (by omega), rfl, b, a % b, rfl, by rw [← hg, Nat.gcd_comm a b, Nat.gcd_rec b a, Nat.gcd_comm], rfl⟩
    · exact ⟨_, rfl, _, rfl, .inl ⟨_, rfl, _, rfl, a, b, rfl, rfl, hb, _, _, rfl, rfl, rfl⟩⟩
  · have hb : ¬ (0 : Int) < (b : Nat) := of_decide_eq_false (Bool.eq_false_iff.mpr c)
    obtain rfl : b = 0 := by omega
    rw [Nat.gcd_zero_right] at hg
    subst hg
    have hz : q' ≠ 0 := by omega
    have hgS : ((Nat.gcd p'.natAbs q'.natAbs : Nat) : Int) = gS p' q' := by
      unfold gS
      rw [if_neg (by omega)]
    rw [hgS]
    have n0 := gS_ne (p := p') hz
    have l9 : (gS p' q').natAbs.log2 < 9000 := Nat.lt_of_le_of_lt (log_le (gS_le hz)) hl
    refine ⟨_, rfl, _, rfl, p', _, rfl, rfl, ⟨n0, l9⟩, _, rfl, _, rfl, q', _, rfl, rfl, ⟨n0, l9⟩, (by show 2 ≤ sizeLine; decide), fun t nt => ?_⟩
    show Q _ (upd _ _ (HO.tup [.int (lowU p' q'), .int (lowL p' q')]))
    rw [low_HO hz]
    exact qq.upd nt
theorem scMul : FnScope nPQ ["_law_p", "_law_q"] (defScope L_mul) := ⟨rfl, rfl, rfl, by decide +kernel, rfl, by decide +kernel, by decide +kernel⟩
theorem ok_mulQ (F : Fun K "_law_mul" "_law_mul" L_mul f fd) (G : FnOk P w K mg base CX0 1 fL fdL ["_law_num_here", "_law_den"] spLowQ) (bL : Binds K fdL ["_law_num_here", "_law_den"] []) (kL : PySem.W.keepIn K (.ref fL) = true) (mL : mg "_law_low" = some (.ref fL)) :
    FnOk P w K mg base CX0 2 f fd ["_law_p", "_law_q"] (spTwoQ K (· * ·)) := by
  refine F.ok scMul (fun vs H Q E h => ?_) (fun cdv A outer s H vs Q E hr h => ?_)
  · obtain ⟨x, y, a, b, rfl, _⟩ := h
    rfl
  obtain ⟨x, y, a, b, rfl, hx, hy, ba, bb, q⟩ := h
  obtain ⟨xa, rfl, sx, _⟩ := hx.sq
  obtain ⟨ya, rfl, sy, _⟩ := hy.sq
  refine ⟨_, pss_one (ps_ret (pe_call G hr rfl mL kL bL .nil pass0 (pa_cons (pe_op op_mulW (pe_ix ix_tup (pv 0) pe_int (fun _ _ => rfl)) (pe_ix ix_tup (pv 1) pe_int (fun _ _ => rfl)))
      (pa_cons (pe_op op_mulW (pe_ix ix_tup (pv 0) pe_int (fun _ _ => rfl)) (pe_ix ix_tup (pv 1) pe_int (fun _ _ => rfl))) pa_nil)))), ?_⟩
  exact ⟨_, rfl, xa, _, 0, _, rfl, rfl, sx, rfl, _, rfl, ya, _, 0, _, rfl, rfl, sy, rfl, a.num, b.num, rfl, rfl, wide_mul ba.1 bb.1 (by decide) (by decide) (by decide),
      _, rfl, xa, _, 1, _, rfl, rfl, sx, rfl, _, rfl, ya, _, 1, _, rfl, rfl, sy, rfl, (a.den : Nat), (b.den : Nat), rfl, rfl, wide_mul ba.dn bb.dn (by decide) (by decide) (by decide), _, _, rfl, Int.mul_ne_zero (den_ne a) (den_ne b), log_two ba.dn bb.dn, by rw [← rat_mul]; exact q⟩
theorem num_ne {b : Rat} (h : b ≠ 0) : b.num ≠ 0 := fun z => h (Rat.num_eq_zero.mp z)
end
end Kx
end
section
set_option maxHeartbeats 4000000
namespace Kx
open PySem PySem.Spec PyProof.Rows L2
def revB : List Value → List Value → List Value := fun _ ws => ws.reverse
def revA : List V → List V → List V := fun _ zs => zs.reverse
def appB : List Value → List Value → List Value := fun us ws => us ++ ws
def appA : List V → List V → List V := fun vs zs => vs ++ zs
theorem vals_rev : ∀ {vs : List V} {us : List Value}, Vals vs us → Vals vs.reverse us.reverse
  | _, _, .nil => .nil
  | _, _, .cons r t => by
    rw [List.reverse_cons, List.reverse_cons]
    exact Paired.snoc (vals_rev t) r
theorem vals_app : ∀ {vs : List V} {us : List Value} {zs : List V} {ws : List Value}, Vals vs us → Vals zs ws → Vals (vs ++ zs) (us ++ ws)
  | _, _, _, _, .nil, t => t
  | _, _, _, _, .cons r t, t' => .cons r (vals_app t t')
section
variable {X : Cx} {CX : CXT} {k : Nat} {f : Addr} {fd : FuncData} {ps ks : List Str} {sp : Sp} {E : XK} {x : Str} {p pos : Pos} {kws : List Keyword} {tk : TA}
/-- f(k = v, ..), keywords alone -/
def tCallR (m : Nat) (sp : Sp) (E : XK) (tk : TA) : TE := fun σ H Q => tk σ H fun zs H2 => zs.length = m ∧ sp zs.reverse H2 Q E
theorem pe_callR (F : FnOk X.prog X.w X.K X.mg X.base CX k f fd ps sp) (hr : Room k X.A) (hg : Gl X x) (hm : X.mg x = some (.ref f)) (hk : PySem.W.keepIn X.K (.ref f) = true) (hb : KBn X.K fd ps 0 ks revB revA) (hx : Passes CX X E)
    (hkw : PK X kws tk) (hall : (backToKw pos (keywordEach kws X.env)).all (·.1.isSome) = true := by rfl) (hks : (backToKw pos (keywordEach kws X.env)).filterMap (·.1) = ks := by rfl)
    (hdb : (x == ("__debug__" : Str)) = false := by decide) (hpl : ((backTo pos (starEach [] X.env)).any (·.1) || (backToKw pos (keywordEach kws X.env)).any (·.1.isNone)) = false := by rfl) :
    PE X (.Call (.Name x p) [] kws pos) (tCallR ks.length sp E tk) := by
  refine ⟨fun pins s σ H Q I h => wpAny_Call_Name_kw (ld_glob I hg hm ?_ hdb)⟩
  refine PySem.W.callWith_KW0 (h₀ := X.base) I.ok.mod.kin hk hall ?_ hpl
  refine thn (hkw.run pos pins s σ H _ I h) fun ws s2 ⟨zs, H2, I2, rz, l2, q2⟩ => ⟨I2.kIn, ?_⟩
  rw [hks]
  exact run_fnN (us := []) (vs := []) F hr hb hx I2 .nil rz rfl l2 q2
end
section
variable {K : PySem.W.Frag} {x q : Str} {st : Stmt} {f : Addr} {fd : FuncData}
theorem kb_two {a b : Str} {st : Stmt} (F : Fun K x q st f fd) (h : ∀ (kV doc pm : Value) (an : Option Addr) (cdv ct u v : Value), bindArgs (PySem.W.fnOf x q (defArgs st) (defBody st) (defScope st) .none kV doc pm an cdv ct) ⟨[], [(b, v), (a, u)]⟩ = pure [(a, u), (b, v)]) : KBn K fd [a, b] 0 [b, a] revB revA := by
  obtain ⟨oc, od, kV, doc, pm, an, cdv, ct, osl, rfl, lk, hcd⟩ := F.ex
  refine ⟨fun s us ws _ l1 l2 => ?_, fun _ r => vals_rev r⟩
  match us, ws, l1, l2 with
  | [], [v, u], _, _ => exact .of_eq (h _ _ _ _ _ _ u v)
theorem kb_one {a : Str} {st : Stmt} (F : Fun K x q st f fd) (h : ∀ (kV doc pm : Value) (an : Option Addr) (cdv ct u : Value), bindArgs (PySem.W.fnOf x q (defArgs st) (defBody st) (defScope st) .none kV doc pm an cdv ct) ⟨[], [(a, u)]⟩ = pure [(a, u)]) : KBn K fd [a] 0 [a] revB revA := by
  obtain ⟨oc, od, kV, doc, pm, an, cdv, ct, osl, rfl, lk, hcd⟩ := F.ex
  refine ⟨fun s us ws _ l1 l2 => ?_, fun _ r => vals_rev r⟩
  match us, ws, l1, l2 with
  | [], [u], _, _ => exact .of_eq (h _ _ _ _ _ _ u)
/-- the first by its place, the second by its name -/
theorem kb_mix {a b : Str} {st : Stmt} (F : Fun K x q st f fd) (h : ∀ (kV doc pm : Value) (an : Option Addr) (cdv ct u v : Value), bindArgs (PySem.W.fnOf x q (defArgs st) (defBody st) (defScope st) .none kV doc pm an cdv ct) ⟨[u], [(b, v)]⟩ = pure [(a, u), (b, v)]) : KBn K fd [a, b] 1 [b] appB appA := by
  obtain ⟨oc, od, kV, doc, pm, an, cdv, ct, osl, rfl, lk, hcd⟩ := F.ex
  refine ⟨fun s us ws _ l1 l2 => ?_, fun r1 r2 => vals_app r1 r2⟩
  match us, ws, l1, l2 with
  | [u], [v], _, _ => exact .of_eq (h _ _ _ _ _ _ u v)
end
/-! ### a def as it is used: its promise, its arguments, its name -/
structure Use (P : Program) (w : World) (K : PySem.W.Frag) (mg : Str → Option Value) (base : Heap) (CX : CXT) (k : Nat) (x : Str) (ps : List Str) (sp : Sp) (kws : List (List Str)) : Prop where
  ex : ∃ (f : Addr) (fd : FuncData), FnOk P w K mg base CX k f fd ps sp ∧ Binds K fd ps [] ∧ PySem.W.keepIn K (.ref f) = true ∧ mg x = some (.ref f) ∧ (∀ ks ∈ kws, ks.length = ps.length → KBn K fd ps 0 ks revB revA) ∧ (∀ ks ∈ kws, ks.length = 1 → ps.length = 2 → KBn K fd ps 1 ks appB appA)
section
variable {X : Cx} {CX : CXT} {k : Nat} {ps ks : List Str} {kl : List (List Str)} {sp : Sp} {E : XK} {x : Str} {p pos : Pos} {kws : List Keyword} {tk t : TA} {e : Expr} {es : List Expr}
theorem pe_use (U : Use X.prog X.w X.K X.mg X.base CX k x ps sp kl) (hr : Room k X.A) (hg : Gl X x) (hx : Passes CX X E) (ha : PA X (e :: es) t)
    (hdb : (x == ("__debug__" : Str)) = false := by decide) (he : starEach (e :: es) X.env = (false, eval e X.env) :: starEach es X.env := by rfl) (hpl : (backTo pos (starEach es X.env)).any (·.1) = false := by rfl) :
    PE X (.Call (.Name x p) (e :: es) [] pos) (tCall sp [] E t) := by
  obtain ⟨f, fd, F, b, kp, m, _⟩ := U.ex
  exact pe_call F hr hg m kp b .nil hx ha hdb he hpl
theorem pe_useR (U : Use X.prog X.w X.K X.mg X.base CX k x ps sp kl) (hr : Room k X.A) (hg : Gl X x) (hx : Passes CX X E) (hl : ks.length = ps.length)
    (hkw : PK X kws tk) (hin : ks ∈ kl) (hall : (backToKw pos (keywordEach kws X.env)).all (·.1.isSome) = true := by rfl) (hks : (backToKw pos (keywordEach kws X.env)).filterMap (·.1) = ks := by rfl)
    (hdb : (x == ("__debug__" : Str)) = false := by decide) (hpl : ((backTo pos (starEach [] X.env)).any (·.1) || (backToKw pos (keywordEach kws X.env)).any (·.1.isNone)) = false := by rfl) :
    PE X (.Call (.Name x p) [] kws pos) (tCallR ks.length sp E tk) := by
  obtain ⟨f, fd, F, b, kp, m, h, _⟩ := U.ex
  exact pe_callR F hr hg m kp (h _ hin hl) hx hkw hall hks hdb hpl
theorem pe_useN (U : Use X.prog X.w X.K X.mg X.base CX k x ps sp kl) (hr : Room k X.A) (hg : Gl X x) (hx : Passes CX X E) (hl : ks.length = 1) (hl2 : ps.length = 2)
    (ha : PA X (e :: es) t) (hkw : PK X kws tk) (hin : ks ∈ kl) (hall : (backToKw pos (keywordEach kws X.env)).all (·.1.isSome) = true := by rfl) (hks : (backToKw pos (keywordEach kws X.env)).filterMap (·.1) = ks := by rfl)
    (hdb : (x == ("__debug__" : Str)) = false := by decide) (he : starEach (e :: es) X.env = (false, eval e X.env) :: starEach es X.env := by rfl)
    (hpl : ((backTo pos (starEach (e :: es) X.env)).any (·.1) || (backToKw pos (keywordEach kws X.env)).any (·.1.isNone)) = false := by rfl) :
    PE X (.Call (.Name x p) (e :: es) kws pos) (tCallN 1 ks.length sp appA E t tk) := by
  obtain ⟨f, fd, F, b, kp, m, _, h⟩ := U.ex
  exact pe_callN F hr hg m kp (h _ hin hl hl2) hx ha hkw hall hks hdb he hpl
end
/-! ### a def whose code object's place is known -/
structure FunC (K : PySem.W.Frag) (x qual : Str) (st : Stmt) (f : Addr) (fd : FuncData) (c : Addr) : Prop where
  ex : ∃ (oc : Value) (od : Option Addr) (kV doc pm : Value) (an : Option Addr) (ct : Value) (osl : Array (Option Value)),
    fd = PySem.W.fnOf x qual (defArgs st) (defBody st) (defScope st) .none kV doc pm an (.ref c) ct ∧ K.lookup f = some ⟨oc, od, .func fd, osl⟩ ∧ PySem.W.codeIn K (.ref c) qual = true
  kp : PySem.W.keepIn K (.ref f) = true
section
variable {P : Program} {w : World} {K : PySem.W.Frag} {mg : Str → Option Value} {base : Heap}
theorem FunC.fn {x qual : Str} {st : Stmt} {f c : Addr} {fd : FuncData} (F : FunC K x qual st f fd c) : Fun K x qual st f fd := by
  obtain ⟨oc, od, kV, doc, pm, an, ct, osl, h1, h2, h3⟩ := F.ex
  exact ⟨⟨oc, od, kV, doc, pm, an, _, ct, osl, h1, h2, h3⟩, F.kp⟩
theorem FunC.ok {x qual : Str} {st : Stmt} {f c : Addr} {fd : FuncData} {N ps : List Str} {k : Nat} {sp : Sp} (F : FunC K x qual st f fd c) (S : FnScope N ps (defScope st)) (len : ∀ vs H Q E, sp vs H Q E → vs.length = ps.length)
    (hbody : ∀ (A : Around) (outer : List Env) (s : Shared) (H : Hp) (vs : List V) (Q : VK) (E : XK), Room k (A.deeper (envOfC qual (defScope st) s.heap.objs.size f (.ref c))) → sp vs H Q E →
      ∃ t, PSs (cxOf CX0 P w K mg base N qual (defScope st) f (.ref c) A outer s H E).nox (defBody st) t ∧ t { nx := fun _ H' => Q .non H', rt := Q } (L2.start N vs) H) : FnOk P w K mg base CX0 (k + 1) f fd ps sp := by
  obtain ⟨oc, od, kV, doc, pm, an, ct, osl, rfl, lk, hcd⟩ := F.ex
  refine fn_of lk hcd S len fun A outer s H vs Q E hr hsp => ?_
  obtain ⟨t, h, q⟩ := hbody A outer s H vs Q E hr hsp
  exact ⟨t, h.nox, q⟩
end
end Kx
end
section
set_option maxHeartbeats 4000000
namespace Kx
open PySem PySem.Spec PyProof.Rows L2
/-- a list comprehension that makes something new at each turn: R says of the i-th -/
theorem lc_acc {J : It} {n : Nat} {G : Hp → Prop} {Y : Nat → Hp → V → Hp → Prop} (w : Walk J n G Y) {g : TG} {te : TE} {vs : List Nat} {σ : L2.St} {H1 : Hp} {D : Addr} {Qd : Hp → Prop} (R : Nat → Hp → V → Prop)
    (mono : ∀ i H H' y l, R i H y → H D = some (.lst l) → But D H H' → R i H' y) (nD : H1 D = none) (hn : n ≤ 900) (hG : ∀ H, Same H1 H → G H)
    (hs : ∀ i x H H' (k : V → Hp → Prop), i < n → Same H1 H → Y i H x H' → (∀ y H4, Same H H4 → R i H4 y → k y H4) → g x (wipe σ vs) H' fun σ2 H2 => wipe σ2 vs = wipe σ vs ∧ te σ2 H2 k)
    (hd : ∀ H xs, Same H1 H → H D = some (.lst xs) → xs.length = n → (∀ (i : Nat) y, xs[i]? = some y → R i H y) → Qd H) :
    ∃ W : Nat → Nat → Hp → Prop, (∃ m, W 0 m (upd H1 D (.lst []))) ∧ ∀ i m H, W i m H →
      (J.stop i H ∧ Qd H) ∨ (J.go i H ∧ ∃ Nx : Hp → Prop, (∀ H', Nx H' → ∃ m', m' < m ∧ W (i + 1) m' H') ∧ ∀ x H', J.yld i H x H' → g x (wipe σ vs) H' fun σ2 H2 => wipe σ2 vs = wipe σ vs ∧ tYes σ2 H2 fun b H3 =>
        if b = true then te σ2 H3 fun y H4 => ∃ acc, H4 D = some (.lst acc) ∧ acc.length < sizeLine ∧ Nx (upd H4 D (.lst (acc ++ [y]))) else Nx H3) := by
  refine lc_it w (fun i H => Same H1 H ∧ ∃ xs, H D = some (.lst xs) ∧ xs.length = i ∧ ∀ (j : Nat) y, xs[j]? = some y → R j H y) ⟨new_same nD _, [], upd_same, rfl, fun j y h => by simp at h⟩ (fun i H _ h => hG H h.1) ?_ ?_
  · rintro i x H H' hi ⟨s1, xs, hx, hl, hR⟩ y
    have z := hs i x H H' (fun y H4 => ∃ acc, H4 D = some (.lst acc) ∧ acc.length < sizeLine ∧ (Same H1 (upd H4 D (.lst (acc ++ [y]))) ∧ ∃ xs, (upd H4 D (.lst (acc ++ [y]))) D = some (.lst xs) ∧ xs.length = i + 1 ∧ ∀ (j : Nat) z, xs[j]? = some z → R j (upd H4 D (.lst (acc ++ [y]))) z)) hi s1 y (fun y H4 s4 r4 => ?_)
    · exact z
    · have h4 := s4 _ _ hx
      refine ⟨xs, h4, small1000 (by omega), fun e o h => ?_, xs ++ [y], upd_same, by rw [List.length_append, hl]; rfl, fun j z hz => ?_⟩
      · rw [upd_ne (ne_of_none h nD)]
        exact s4 _ _ (s1 _ _ h)
      · have sm : But D H4 (upd H4 D (.lst (xs ++ [y]))) := fun e o n h => by rw [upd_ne n]; exact h
        by_cases c : j < xs.length
        · rw [List.getElem?_append_left c] at hz
          exact mono j H _ z _ (hR j z hz) hx ((But.same s4).trans sm)
        · rw [List.getElem?_append_right (by omega)] at hz
          match hj : j - xs.length, hz with
          | 0, hz =>
            rw [← Option.some.inj (show some y = some z from hz)]
            obtain rfl : j = i := by omega
            exact mono j H4 _ _ _ r4 h4 sm
          | _ + 1, hz => simp at hz
  · rintro H ⟨s1, xs, hx, hl, hR⟩
    exact hd H xs s1 hx hl hR
theorem Nq.butL {K : PySem.W.Frag} {H H' : Hp} {v : V} {q : Rat} {D : Addr} {l : List V} (h : Nq K H v q) (hD : H D = some (.lst l)) (s : But D H H') : Nq K H' v q := by
  obtain ⟨a, e, h⟩ := h
  refine ⟨a, e, h.imp (fun h => s _ _ (fun z => ?_) h) id⟩
  rw [z, hD] at h
  cases h
/-- .. new numbers -/
theorem lc_nums {K : PySem.W.Frag} {J : It} {n : Nat} {G : Hp → Prop} {Y : Nat → Hp → V → Hp → Prop} (w : Walk J n G Y) {g : TG} {te : TE} {vs : List Nat} {σ : L2.St} {H1 : Hp} {D : Addr} {Qd : Hp → Prop} (qs : List Rat)
    (hl : qs.length = n) (nD : H1 D = none) (hn : n ≤ 900) (hG : ∀ H, Same H1 H → G H)
    (hs : ∀ i q x H H' (k : V → Hp → Prop), qs[i]? = some q → Same H1 H → Y i H x H' → (∀ y H4, Same H H4 → Nq K H4 y q → k y H4) → g x (wipe σ vs) H' fun σ2 H2 => wipe σ2 vs = wipe σ vs ∧ te σ2 H2 k)
    (hd : ∀ H xs, Same H1 H → H D = some (.lst xs) → Nl K H xs qs → Qd H) :
    ∃ W : Nat → Nat → Hp → Prop, (∃ m, W 0 m (upd H1 D (.lst []))) ∧ ∀ i m H, W i m H →
      (J.stop i H ∧ Qd H) ∨ (J.go i H ∧ ∃ Nx : Hp → Prop, (∀ H', Nx H' → ∃ m', m' < m ∧ W (i + 1) m' H') ∧ ∀ x H', J.yld i H x H' → g x (wipe σ vs) H' fun σ2 H2 => wipe σ2 vs = wipe σ vs ∧ tYes σ2 H2 fun b H3 =>
        if b = true then te σ2 H3 fun y H4 => ∃ acc, H4 D = some (.lst acc) ∧ acc.length < sizeLine ∧ Nx (upd H4 D (.lst (acc ++ [y]))) else Nx H3) := by
  refine lc_acc w (fun i H y => ∀ q, qs[i]? = some q → Nq K H y q) (fun i H H' y l h hD s q hq => (h q hq).butL hD s) nD hn hG (fun i x H H' k hi s y hk => ?_) (fun H xs s h l hR => hd H xs s h ⟨by rw [l, hl], fun i x q h1 h2 => hR i x h1 q h2⟩)
  have e := List.getElem?_eq_getElem (l := qs) (i := i) (by omega)
  exact hs i _ x H H' k e s y fun z H4 s4 r4 => hk z H4 s4 fun q hq => by
    rw [e] at hq
    rw [← Option.some.inj hq]
    exact r4
abbrev tupQ (q : Rat) : PyData := .tuple [.int q.num, .int (q.den : Nat)]
theorem eqv_num (a b : Rat) : PyData.eqv (tupQ a) (tupQ b) = decide (a = b) := by
  by_cases h : a = b
  · subst h
    rw [decide_eq_true rfl]
    exact SeqAt.eqv_refl _ rfl
  · rw [decide_eq_false h]
    simp only [tupQ, PyData.eqv, PyData.eqvAll, Bool.and_true]
    rw [Bool.and_eq_false_iff]
    by_cases e : a.num = b.num
    · right
      refine beq_eq_false_iff_ne.mpr fun z => h (Rat.ext e ?_)
      omega
    · left
      exact beq_eq_false_iff_ne.mpr e
end Kx
end
section
set_option maxHeartbeats 4000000
namespace Kx
open PySem PySem.Spec PyProof.Rows L2
/-! ### the program's numbers -/
abbrev nOO : List Str := ["one", "other"]
section
variable {P : Program} {w : World} {K : PySem.W.Frag} {mg : Str → Option Value} {base : Heap} {f fL o0 : Addr} {fd fdL : FuncData}
theorem scRatio : FnScope ["upper", "lower", "shared"] ["upper", "lower"] (defScope F_ratio) := ⟨rfl, rfl, rfl, by decide +kernel, rfl, by decide +kernel, by decide +kernel⟩
theorem ok_ratio (F : Fun K "ratio" "ratio" F_ratio f fd) (mG : mg "gcd" = some (.builtin "math.gcd")) : FnOk P w K mg base CX0 1 f fd ["upper", "lower"] spLowQ := by
  refine F.ok scRatio (fun vs H Q E h => ?_) (fun cdv A outer s H vs Q E hr h => ?_)
  · obtain ⟨p, q, rfl, _⟩ := h
    rfl
  obtain ⟨p, q, rfl, hq, hl, qq⟩ := h
  refine ⟨_, pss_cons (ps_if (pt_cmpR op_eq (pv 1) pe_int (nomark _)) (pss_one ps_never) pss_nil)
    (pss_cons (ps_set (i := 2) scRatio.nd rfl (Or.inl rfl) (pe_callBfun cr_gcd rfl mG (pa_cons (pv 0) (pa_cons (pv 1) pa_nil))))
    (pss_cons (ps_if (pt_cmpR op_lt (pv 1) pe_int (nomark _)) (pss_one (ps_set (i := 2) scRatio.nd rfl (Or.inl rfl) (pe_un un_neg (pv 2)))) pss_nil)
    (pss_one (ps_ret (pe_tup (pa_cons (pe_op op_fdivA (pv 0) (pv 2)) (pa_cons (pe_op op_fdivA (pv 1) (pv 2)) pa_nil))))))), ?_⟩
  have fin : ∀ g : Int, g = gS p q → (∀ t, H t = none → Q (.ref t) (upd H t (.tup [.int (p.fdiv g), .int (q.fdiv g)]))) ∧ g ≠ 0 ∧ g.natAbs.log2 < 9000 := by
    rintro g rfl
    refine ⟨fun t nt => ?_, gS_ne hq, Nat.lt_of_le_of_lt (log_le (gS_le hq)) hl⟩
    have := qq.upd nt
    rw [← low_HO hq] at this
    exact this
  refine ⟨_, rfl, rfl, _, rfl, ?_⟩
  rw [decide_eq_false (fun e => hq (V.int.inj e))]
  refine iteF ⟨_, rfl, _, rfl, p, q, rfl, ?_⟩
  refine ⟨_, rfl, q, 0, rfl, rfl, _, rfl, ite2 (fun c => ?_) (fun c => ?_)⟩
  · obtain ⟨q1, n0, l9⟩ := fin (-((Nat.gcd p.natAbs q.natAbs : Nat) : Int)) (by unfold gS; rw [if_pos (of_decide_eq_true c)])
    exact ⟨_, rfl, _, rfl, _, rfl, _, rfl, p, _, rfl, rfl, ⟨n0, l9⟩, _, rfl, _, rfl, q, _, rfl, rfl, ⟨n0, l9⟩, (by show 2 ≤ sizeLine; decide), q1⟩
  · obtain ⟨q1, n0, l9⟩ := fin ((Nat.gcd p.natAbs q.natAbs : Nat) : Int) (by unfold gS; rw [if_neg (of_decide_eq_false (Bool.eq_false_iff.mpr c))])
    exact ⟨_, rfl, _, rfl, p, _, rfl, rfl, ⟨n0, l9⟩, _, rfl, _, rfl, q, _, rfl, rfl, ⟨n0, l9⟩, (by show 2 ≤ sizeLine; decide), q1⟩
theorem scPro : FnScope nOO ["one", "other"] (defScope F_product_of) := ⟨rfl, rfl, rfl, by decide +kernel, rfl, by decide +kernel, by decide +kernel⟩
theorem ok_product (F : Fun K "product_of" "product_of" F_product_of f fd) (UR : Use P w K mg base CX0 1 "ratio" ["upper", "lower"] spLowQ []) : FnOk P w K mg base CX0 2 f fd ["one", "other"] (spTwoQ K (· * ·)) := by
  refine F.ok scPro (fun vs H Q E h => ?_) (fun cdv A outer s H vs Q E hr h => ?_)
  · obtain ⟨x, y, a, b, rfl, _⟩ := h
    rfl
  obtain ⟨x, y, a, b, rfl, hx, hy, ba, bb, q⟩ := h
  obtain ⟨xa, rfl, sx, _⟩ := hx.sq
  obtain ⟨ya, rfl, sy, _⟩ := hy.sq
  refine ⟨_, pss_one (ps_ret (pe_use UR hr rfl pass0 (pa_cons (pe_op op_mulW (pe_ix ix_tup (pv 0) pe_int (fun _ _ => rfl)) (pe_ix ix_tup (pv 1) pe_int (fun _ _ => rfl)))
      (pa_cons (pe_op op_mulW (pe_ix ix_tup (pv 0) pe_int (fun _ _ => rfl)) (pe_ix ix_tup (pv 1) pe_int (fun _ _ => rfl))) pa_nil)))), ?_⟩
  exact ⟨_, rfl, xa, _, 0, _, rfl, rfl, sx, rfl, _, rfl, ya, _, 0, _, rfl, rfl, sy, rfl, a.num, b.num, rfl, rfl, wide_mul ba.1 bb.1 (by decide) (by decide) (by decide),
      _, rfl, xa, _, 1, _, rfl, rfl, sx, rfl, _, rfl, ya, _, 1, _, rfl, rfl, sy, rfl, (a.den : Nat), (b.den : Nat), rfl, rfl, wide_mul ba.dn bb.dn (by decide) (by decide) (by decide),
      _, _, rfl, Int.mul_ne_zero (den_ne a) (den_ne b), log_two ba.dn bb.dn, by rw [← rat_mul]; exact q⟩
theorem scDif : FnScope nOO ["one", "other"] (defScope F_difference_of) := ⟨rfl, rfl, rfl, by decide +kernel, rfl, by decide +kernel, by decide +kernel⟩
theorem scQuo : FnScope nOO ["one", "other"] (defScope F_quotient_of) := ⟨rfl, rfl, rfl, by decide +kernel, rfl, by decide +kernel, by decide +kernel⟩
theorem ok_difference (F : Fun K "difference_of" "difference_of" F_difference_of f fd) (UR : Use P w K mg base CX0 1 "ratio" ["upper", "lower"] spLowQ []) : FnOk P w K mg base CX0 2 f fd ["one", "other"] (spTwoQ K (· - ·)) := by
  refine F.ok scDif (fun vs H Q E h => ?_) (fun cdv A outer s H vs Q E hr h => ?_)
  · obtain ⟨x, y, a, b, rfl, _⟩ := h
    rfl
  obtain ⟨x, y, a, b, rfl, hx, hy, ba, bb, q⟩ := h
  obtain ⟨xa, rfl, sx, _⟩ := hx.sq
  obtain ⟨ya, rfl, sy, _⟩ := hy.sq
  refine ⟨_, pss_one (ps_ret (pe_use UR hr rfl pass0 (pa_cons (pe_op op_sub (pe_op op_mulW (pe_ix ix_tup (pv 0) pe_int (fun _ _ => rfl)) (pe_ix ix_tup (pv 1) pe_int (fun _ _ => rfl))) (pe_op op_mulW (pe_ix ix_tup (pv 1) pe_int (fun _ _ => rfl)) (pe_ix ix_tup (pv 0) pe_int (fun _ _ => rfl))))
      (pa_cons (pe_op op_mulW (pe_ix ix_tup (pv 0) pe_int (fun _ _ => rfl)) (pe_ix ix_tup (pv 1) pe_int (fun _ _ => rfl))) pa_nil)))), ?_⟩
  exact ⟨_, rfl, xa, _, 0, _, rfl, rfl, sx, rfl, _, rfl, ya, _, 1, _, rfl, rfl, sy, rfl, a.num, (b.den : Nat), rfl, rfl, wide_mul ba.1 bb.dn (by decide) (by decide) (by decide), _, rfl, ya, _, 0, _, rfl, rfl, sy, rfl, _, rfl, xa, _, 1, _, rfl, rfl, sx, rfl, b.num, (a.den : Nat), rfl, rfl, wide_mul bb.1 ba.dn (by decide) (by decide) (by decide), _, _, rfl, rfl,
      _, rfl, xa, _, 1, _, rfl, rfl, sx, rfl, _, rfl, ya, _, 1, _, rfl, rfl, sy, rfl, (a.den : Nat), (b.den : Nat), rfl, rfl, wide_mul ba.dn bb.dn (by decide) (by decide) (by decide), _, _, rfl, Int.mul_ne_zero (den_ne a) (den_ne b), log_two ba.dn bb.dn, by rw [← rat_sub]; exact q⟩
theorem ok_quotient (F : Fun K "quotient_of" "quotient_of" F_quotient_of f fd) (UR : Use P w K mg base CX0 1 "ratio" ["upper", "lower"] spLowQ []) : FnOk P w K mg base CX0 2 f fd ["one", "other"] (spDivQ K) := by
  refine F.ok scQuo (fun vs H Q E h => ?_) (fun cdv A outer s H vs Q E hr h => ?_)
  · obtain ⟨x, y, a, b, rfl, _⟩ := h
    rfl
  obtain ⟨x, y, a, b, rfl, hx, hy, ba, bb, b0, bn, q⟩ := h
  obtain ⟨xa, rfl, sx, _⟩ := hx.sq
  obtain ⟨ya, rfl, sy, _⟩ := hy.sq
  refine ⟨_, pss_one (ps_ret (pe_use UR hr rfl pass0 (pa_cons (pe_op op_mulW (pe_ix ix_tup (pv 0) pe_int (fun _ _ => rfl)) (pe_ix ix_tup (pv 1) pe_int (fun _ _ => rfl)))
      (pa_cons (pe_op op_mulW (pe_ix ix_tup (pv 0) pe_int (fun _ _ => rfl)) (pe_ix ix_tup (pv 1) pe_int (fun _ _ => rfl))) pa_nil)))), ?_⟩
  exact ⟨_, rfl, xa, _, 0, _, rfl, rfl, sx, rfl, _, rfl, ya, _, 1, _, rfl, rfl, sy, rfl, a.num, (b.den : Nat), rfl, rfl, wide_mul ba.1 bb.dn (by decide) (by decide) (by decide),
      _, rfl, xa, _, 1, _, rfl, rfl, sx, rfl, _, rfl, ya, _, 0, _, rfl, rfl, sy, rfl, (a.den : Nat), b.num, rfl, rfl, wide_mul ba.dn bn (by decide) (by decide) (by decide), _, _, rfl, Int.mul_ne_zero (den_ne a) (num_ne b0), log_two ba.dn bn, by rw [← div_bq b0]; exact q⟩
end
/-! ### lists of numbers -/
/-- the list at a, for lists that were passed -/
def Ls (K : PySem.W.Frag) (H : Hp) (v : V) (qs : List Rat) : Prop := ∃ a xs, v = .ref a ∧ H a = some (.lst xs) ∧ Nl K H xs qs
theorem Ls.same {K : PySem.W.Frag} {H H' : Hp} {v : V} {qs : List Rat} (h : Ls K H v qs) (s : Same H H') : Ls K H' v qs := by
  obtain ⟨a, xs, e, h1, h2⟩ := h
  exact ⟨a, xs, e, s _ _ h1, h2.same s⟩
/-- a new list of numbers comes back -/
def GivesL (K : PySem.W.Frag) (H : Hp) (Q : VK) (rs : List Rat) : Prop := ∀ b H' xs, Same H H' → H b = none → H' b = some (.lst xs) → Nl K H' xs rs → Q (.ref b) H'
def AllB (n : Nat) (qs : List Rat) : Prop := ∀ q ∈ qs, Bq n q
def spTwoL (K : PySem.W.Frag) (op : Rat → Rat → Rat) : Sp := fun vs H Q _ => ∃ (x y : V) (qs rs : List Rat), vs = [x, y] ∧ Ls K H x qs ∧ Ls K H y rs ∧ qs.length = rs.length ∧ qs.length ≤ 100 ∧ AllO qs ∧ AllO rs ∧ GivesL K H Q (qs.zipWith op rs)
abbrev nSo : List Str := ["one", "other", "a", "c", "b", "d"]
abbrev nMo : List Str := ["numbers", "t", "number"]
section
variable {P : Program} {w : World} {K : PySem.W.Frag} {mg : Str → Option Value} {base : Heap} {f fL o0 : Addr} {fd fdL : FuncData}
theorem scDo : FnScope nSo ["one", "other"] (defScope F_differences_of) := ⟨rfl, rfl, rfl, by decide +kernel, rfl, by decide +kernel, by decide +kernel⟩
theorem zip_get {op : Rat → Rat → Rat} {qs rs : List Rat} {i : Nat} {q : Rat} (h : (qs.zipWith op rs)[i]? = some q) : ∃ a b, qs[i]? = some a ∧ rs[i]? = some b ∧ q = op a b := by
  rw [List.getElem?_zipWith] at h
  cases e1 : qs[i]? with
  | none => simp [e1] at h
  | some a =>
    cases e2 : rs[i]? with
    | none => simp [e1, e2] at h
    | some b =>
      simp [e1, e2] at h
      exact ⟨a, b, rfl, rfl, h.symm⟩
theorem ok_differences (F : Fun K "differences_of" "differences_of" F_differences_of f fd) (mz : mg "zip" = none) (UR : Use P w K mg base CX0 1 "ratio" ["upper", "lower"] spLowQ []) : FnOk P w K mg base CX0 2 f fd ["one", "other"] (spTwoL K (· - ·)) := by
  refine F.ok scDo (fun vs H Q E h => ?_) (fun cdv A outer s H vs Q E hr h => ?_)
  · obtain ⟨x, y, qs, rs, rfl, _⟩ := h
    rfl
  obtain ⟨x, y, qs, rs, rfl, ⟨xa, xs, rfl, hx, nx⟩, ⟨ya, ys, rfl, hy, ny⟩, le, l1, bq, br, q⟩ := h
  refine ⟨_, pss_one (ps_ret (pe_lc (own := [("a", 2), ("c", 3), ("b", 4), ("d", 5)]) (g := gTup K 2 (gCons (gTup K 2 (gCons (gName 2) (gCons (gName 3) gNil))) (gCons (gTup K 2 (gCons (gName 4) (gCons (gName 5) gNil))) gNil))) (tt := tYes) rfl scDo.nd (pi_zip rfl mz (pa_cons (pv 0) (pa_cons (pv 1) pa_nil))) (blkOk_by (N := nSo) (sc := defScope F_differences_of) (by decide +kernel))
      (fun _ _ _ _ _ => pg_tup rfl (pgs_cons (pg_tup rfl (pgs_cons (pg_name (i := 2) scDo.nd rfl (Or.inl rfl)) (pgs_cons (pg_name (i := 3) scDo.nd rfl (Or.inl rfl)) pgs_nil))) (pgs_cons (pg_tup rfl (pgs_cons (pg_name (i := 4) scDo.nd rfl (Or.inl rfl)) (pgs_cons (pg_name (i := 5) scDo.nd rfl (Or.inl rfl)) pgs_nil))) pgs_nil))) (fun _ _ _ _ _ => pts_nil)
      (fun _ _ _ _ _ => pe_use UR hr rfl pass0 (pa_cons (pe_op op_sub (pe_op op_mulW (pv 2) (pv 5)) (pe_op op_mulW (pv 4) (pv 3))) (pa_cons (pe_op op_mulW (pv 3) (pv 5)) pa_nil))))), ?_⟩
  refine ⟨_, rfl, _, rfl, xa, ya, xs, ys, rfl, SqL.of hx, SqL.of hy, fun D nD => ?_⟩
  have lx : xs.length = qs.length := nx.1
  have ly : ys.length = rs.length := ny.1
  refine lc_nums (K := K) (walk_zip (K := K) (a := xa) (b := ya) (xs := xs) (ys := ys) (n := xs.length) (by omega)) (qs.zipWith (· - ·) rs) (by rw [List.length_zipWith]; omega) nD (by omega) (fun H' s => ⟨SqL.of (s _ _ hx), SqL.of (s _ _ hy)⟩) ?_ (fun H' zs s h n => q D H' zs s nD h n)
  rintro i r x H2 H3 k hq s2 ⟨T, y, z, rfl, hT, rfl, hy2, hz2⟩ hk
  obtain ⟨a, b, ea, eb, rfl⟩ := zip_get hq
  have sT := new_same hT (.tup [y, z])
  obtain ⟨va, rfl, sa, _⟩ := ((nx.2 i y a hy2 ea).same (s2.trans sT)).sq
  obtain ⟨vb, rfl, sb, _⟩ := ((ny.2 i z b hz2 eb).same (s2.trans sT)).sq
  have ba := bq a (List.mem_of_getElem? ea)
  have bb := br b (List.mem_of_getElem? eb)
  refine ⟨T, _, rfl, SqT.of upd_same, rfl, _, _, rfl, va, _, rfl, sa, rfl, _, _, rfl, _, _, rfl, rfl, _, _, rfl, vb, _, rfl, sb, rfl, _, _, rfl, _, _, rfl, rfl, rfl, rfl, ?_⟩
  refine ⟨_, rfl, _, rfl, a.num, (b.den : Nat), rfl, rfl, wide_mul ba.1 bb.dn (by decide) (by decide) (by decide), _, rfl, _, rfl, b.num, (a.den : Nat), rfl, rfl, wide_mul bb.1 ba.dn (by decide) (by decide) (by decide), _, _, rfl, rfl, _, rfl, _, rfl, (a.den : Nat), (b.den : Nat), rfl, rfl, wide_mul ba.dn bb.dn (by decide) (by decide) (by decide), ?_⟩
  exact ⟨_, _, rfl, Int.mul_ne_zero (den_ne a) (den_ne b), log_two ba.dn bb.dn, fun t H4 s4 n4 h4 => hk _ _ (sT.trans s4) (.at (by rw [rat_sub]; exact h4))⟩
end
end Kx
end
section
set_option maxHeartbeats 4000000
namespace Kx
open PySem PySem.Spec PyProof.Rows L2
def rLcm : List V → Hp → VK → Prop := fun vs H Q => ∃ a b : Nat, vs = [.int (a : Nat), .int (b : Nat)] ∧ a < 2 ^ 13400 ∧ b < 2 ^ 13400 ∧ 0 < a ∧ 0 < b ∧ Q (.int ((Nat.lcm a b : Nat) : Int)) H
theorem cr_lcm {X : Cx} : CallR X (.builtin "math.lcm") rLcm := by
  intro pins s σ H vs us Q I r h
  obtain ⟨a, b, rfl, ha, hb, a0, b0, q⟩ := h
  obtain ⟨t, u, rfl⟩ := Vals.int2 r
  have e : ((((Nat.lcm 1 ((a : Nat) : Int).natAbs).lcm ((b : Nat) : Int).natAbs : Nat) : Int)) = ((Nat.lcm a b : Nat) : Int) := by
    rw [Int.natAbs_natCast, Int.natAbs_natCast, Nat.lcm_one_left]
  have l1 : (max 1 ((a : Nat) : Int).natAbs).log2 ≤ 13400 := PySem.W.mg_log (by
    rw [Int.natAbs_natCast, Nat.max_eq_right a0]
    exact Nat.lt_of_lt_of_le ha (Nat.pow_le_pow_right (by decide) (by decide)))
  have l2 : (max ((a : Nat) : Int).natAbs ((b : Nat) : Int).natAbs).log2 ≤ 13400 := PySem.W.mg_log (by
    rw [Int.natAbs_natCast, Int.natAbs_natCast]
    exact Nat.lt_of_lt_of_le (Nat.max_lt.mpr ⟨ha, hb⟩) (Nat.pow_le_pow_right (by decide) (by decide)))
  have l3 : ((((Nat.lcm 1 ((a : Nat) : Int).natAbs).lcm ((b : Nat) : Int).natAbs : Nat) : Int)).natAbs.log2 < bitsLine := by
    rw [e, Int.natAbs_natCast]
    refine Nat.lt_of_le_of_lt (PySem.W.mg_log (k := 26800) ?_) (by decide)
    refine Nat.lt_of_le_of_lt (Nat.le_of_dvd (Nat.mul_pos a0 b0) (Nat.lcm_dvd_mul _ _)) ?_
    refine Nat.lt_of_lt_of_le (Nat.mul_lt_mul'' ha hb) ?_
    rw [← Nat.pow_add]
    exact Nat.pow_le_pow_right (by decide) (by decide)
  refine call_function_meets PySem.W.MGF.kind_lcm PySem.W.MGF.plain_lcm PySem.W.MGF.entry_lcm (PySem.W.MGF.args_lcm _ _) (PySem.W.mg_run_lcm a t b u (by omega) (by omega) l3).meets ?_
  exact ⟨.int _, H, I.tok _, ⟨_, by rw [e]⟩, q⟩
/-- the pair of the upper parts and the lower part -/
def spOol (K : PySem.W.Frag) : Sp := fun vs H Q _ => ∃ (x : V) (qs : List Rat) (L B : Nat), vs = [x] ∧ Ls K H x qs ∧ qs.length ≤ 40 ∧ SmL L ∧ B ≤ 100000 ∧ AllD L B qs ∧
  ∀ b p H', Same H H' → H b = none → H' b = some (.lst ((upL (lcmL 1 qs) qs).map V.int)) → H' p = some (.tup [.ref b, .int (lcmL 1 qs : Nat)]) → Q (.ref p) H'
abbrev nOl : List Str := ["numbers", "lower", "_", "below", "above"]
section
variable {P : Program} {w : World} {K : PySem.W.Frag} {mg : Str → Option Value} {base : Heap} {f fL o0 : Addr} {fd fdL : FuncData}
theorem scOl : FnScope nOl ["numbers"] (defScope F_over_one_lower) := ⟨rfl, rfl, rfl, by decide +kernel, rfl, by decide +kernel, by decide +kernel⟩
theorem ok_ool (F : Fun K "over_one_lower" "over_one_lower" F_over_one_lower f fd) (mLc : mg "lcm" = some (.builtin "math.lcm")) : FnOk P w K mg base CX0 1 f fd ["numbers"] (spOol K) := by
  refine F.ok scOl (fun vs H Q E h => ?_) (fun cdv A outer s H vs Q E hr h => ?_)
  · obtain ⟨x, qs, L, B, rfl, _⟩ := h
    rfl
  obtain ⟨x, qs, L, B, rfl, ⟨xa, xs, rfl, hx, nx⟩, l1, sL, lB, bz, q⟩ := h
  have bq : AllO qs := bz.ok sL lB
  refine ⟨_, pss_cons (ps_set (i := 1) scOl.nd rfl (Or.inr rfl) pe_int)
    (pss_cons (ps_for PassesOwn.never rfl (pi_list (pv 0)) (pg_tup rfl (pgs_cons (pg_name (i := 2) scOl.nd rfl (Or.inl rfl)) (pgs_cons (pg_name (i := 3) scOl.nd rfl (Or.inl rfl)) pgs_nil)))
      (pss_one (ps_set (i := 1) scOl.nd rfl (Or.inr rfl) (pe_callBfun cr_lcm rfl mLc (pa_cons (pv 1) (pa_cons (pv 3) pa_nil))))))
    (pss_one (ps_ret (pe_tup (pa_cons (pe_lc (own := [("above", 4), ("below", 3)]) (g := gTup K 2 (gCons (gName 4) (gCons (gName 3) gNil))) (tt := tYes) rfl scOl.nd (pi_list (pv 0)) (blkOk_by (N := nOl) (sc := defScope F_over_one_lower) (by decide +kernel))
      (fun _ _ _ _ _ => pg_tup rfl (pgs_cons (pg_name (i := 4) scOl.nd rfl (Or.inl rfl)) (pgs_cons (pg_name (i := 3) scOl.nd rfl (Or.inl rfl)) pgs_nil))) (fun _ _ _ _ _ => pts_nil)
      (fun _ _ _ _ _ => pe_op op_mulW (pv 4) (pe_op op_fdivA (pv 1) (pv 3)))) (pa_cons (pv 1) pa_nil)))))), ?_⟩
  have lx : xs.length = qs.length := nx.1
  refine ⟨_, rfl, xa, rfl, ⟨_, SqL.of hx⟩, for_list (K := K) (a := xa) (xs := xs) (fun i σ H' => H' = H ∧ ∃ v2 v3, σ = [some (.ref xa), some (.int (lcmL 1 (qs.take i) : Nat)), v2, v3, none]) ⟨rfl, none, none, rfl⟩ (fun i σ H' _ h => by rw [h.1]; exact SqL.of hx) ?_ ?_⟩
  · rintro i x σ H' hi ⟨rfl, v2, v3, rfl⟩
    obtain ⟨a, ea, na⟩ := nx.get hi
    obtain ⟨va, rfl, sa, _⟩ := na.sq
    have hi40 : i < 40 := by
      rcases Nat.lt_or_ge i xs.length with c | c
      · omega
      · rw [List.getElem?_eq_none c] at hi; cases hi
    have zb : lcmL 1 (qs.take i) < 2 ^ 4450 := Nat.lt_of_le_of_lt (Nat.le_of_dvd sL.1 (AllD.lcm sL.1 (qs.take i) 1 (fun r hr => bz r (List.mem_of_mem_take hr)) (Nat.one_dvd _))) sL.2
    have lt : (qs.take i).length ≤ i := by rw [List.length_take]; omega
    refine ⟨va, _, rfl, sa, rfl, _, _, rfl, _, _, rfl, rfl, _, rfl, _, rfl, lcmL 1 (qs.take i), a.den, rfl, Nat.lt_of_lt_of_le zb (Nat.pow_le_pow_right (by decide) (by decide)), Nat.lt_of_lt_of_le (bq a (List.mem_of_getElem? ea)).2 (Nat.pow_le_pow_right (by decide) (by decide)), lcmL_pos _ 1 (by decide), Nat.pos_of_ne_zero a.den_nz, rfl, some (.int a.num), some (.int (a.den : Nat)), ?_⟩
    rw [List.take_add_one, ea, lcmL_app]
    rfl
  · rintro σ H' ⟨rfl, v2, v3, rfl⟩
    rw [lx, List.take_length]
    refine ⟨_, rfl, xa, rfl, ⟨_, SqL.of hx⟩, fun D nD => ?_⟩
    have e0 := lcmL_pos qs 1 (by decide)
    have dv := (lcmL_dvd qs 1).2
    refine lc_acc (walk_list (K := K) (a := xa) (xs := xs)) (fun i _ y => ∀ a, qs[i]? = some a → y = .int (a.num * ((lcmL 1 qs : Nat) / (a.den : Nat)))) (fun i H H' y l h _ _ => h) nD (by omega) (fun H2 s => SqL.of (s _ _ hx)) ?_ ?_
    · rintro i x H2 H3 k hi s2 ⟨rfl, hx2⟩ hk
      obtain ⟨a, ea, na⟩ := nx.get hx2
      obtain ⟨va, rfl, sa, _⟩ := (na.same s2).sq
      have ba := bq a (List.mem_of_getElem? ea)
      have z : lcmL 1 qs < 2 ^ 4450 := Nat.lt_of_le_of_lt (Nat.le_of_dvd sL.1 (AllD.lcm sL.1 qs 1 bz (Nat.one_dvd _))) sL.2
      have cd : ((lcmL 1 qs : Nat) : Int) / ((a.den : Nat) : Int) = ((lcmL 1 qs / a.den : Nat) : Int) := rfl
      refine ⟨va, _, rfl, sa, rfl, _, _, rfl, _, _, rfl, rfl, rfl, _, rfl, _, rfl, _, rfl, _, _, rfl, rfl, ⟨den_ne a, Nat.lt_trans (log_bd ba.dn (by decide)) (by decide)⟩, _, _, rfl, rfl, ?_, hk _ _ (Same.refl _) fun a' ha' => ?_⟩
      · rw [Int.fdiv_eq_ediv_of_nonneg _ (by omega), cd]
        refine wide_mul ba.1 (b := 4450) ?_ (by decide) (by decide) (by decide)
        rw [Int.natAbs_natCast]
        exact Nat.lt_of_le_of_lt (Nat.div_le_self _ _) z
      · rw [ea] at ha'
        rw [← Option.some.inj ha', Int.fdiv_eq_ediv_of_nonneg _ (by omega)]
    · intro H2 zs s2 hD hl hR
      have ez : zs = (upL (lcmL 1 qs) qs).map V.int := by
        apply List.ext_getElem?
        intro i
        unfold upL
        rw [List.map_map, List.getElem?_map]
        by_cases c : i < qs.length
        · rw [List.getElem?_eq_getElem c]
          have e := List.getElem?_eq_getElem (l := zs) (i := i) (by omega)
          rw [e]
          have := hR i _ e _ (List.getElem?_eq_getElem c)
          rw [this]
          rfl
        · rw [List.getElem?_eq_none (by omega), List.getElem?_eq_none (by omega)]
          rfl
      refine ⟨_, rfl, (by show 2 ≤ sizeLine; decide), fun p np => q D p _ (s2.trans (new_same np _)) nD (new_same np _ _ _ (by rw [hD, ez])) upd_same⟩
end
end Kx
end
section
set_option maxHeartbeats 4000000
namespace Kx
open PySem PySem.Spec PyProof.Rows L2
theorem ixl_at {X : Cx} (K : PySem.W.Frag) (h : X.K = K) : IxR X (rIxL K) := by
  subst h
  exact ix_list
theorem ixt_at {X : Cx} (K : PySem.W.Frag) (h : X.K = K) : IxR X (rIxT K) := by
  subst h
  exact ix_tup
/-- the product of two lists -/
def spMulL (K : PySem.W.Frag) : Sp := fun vs H Q _ => ∃ (x y : V) (qs rs : List Rat) (L B M C : Nat), vs = [x, y] ∧ Ls K H x qs ∧ Ls K H y rs ∧ qs.length = rs.length ∧ qs.length ≤ 30 ∧ SmL L ∧ B ≤ 100000 ∧ SmL M ∧ C ≤ 100000 ∧ AllD L B qs ∧ AllD M C rs ∧ GivesL K H Q (mulL qs rs)
abbrev nMl : List Str := ["one", "other", "ones", "one_lower", "others", "other_lower", "found", "place", "upper", "at"]
theorem upL_len (L : Nat) (qs : List Rat) : (upL L qs).length = qs.length := List.length_map _
theorem upL_at {L : Nat} {qs : List Rat} {i : Nat} (h : i < qs.length) : ((upL L qs).map V.int)[i]? = some (.int ((upL L qs).getD i 0)) := by
  rw [List.getElem?_map, List.getElem?_eq_getElem (by rw [upL_len]; exact h), List.getD_eq_getElem?_getD, List.getElem?_eq_getElem (by rw [upL_len]; exact h)]
  rfl
theorem upL_bd {m : Nat} {L : Nat} {qs : List Rat} (h : AllO qs) (hL : L < 2 ^ m) (i : Nat) : ((upL L qs).getD i 0).natAbs < 2 ^ (100000 + m) := by
  unfold upL
  rw [List.getD_eq_getElem?_getD, List.getElem?_map]
  cases e : qs[i]? with
  | none => exact Nat.pow_pos (by decide)
  | some q =>
    refine lt_mul (h q (List.mem_of_getElem? e)).1 ?_
    have : ((L : Nat) : Int) / ((q.den : Nat) : Int) = ((L / q.den : Nat) : Int) := rfl
    rw [this, Int.natAbs_natCast]
    exact Nat.lt_of_le_of_lt (Nat.div_le_self _ _) hL
section
variable {P : Program} {w : World} {K : PySem.W.Frag} {mg : Str → Option Value} {base : Heap} {f fL o0 : Addr} {fd fdL : FuncData}
theorem scMl : FnScope nMl ["one", "other"] (defScope F_multiplied) := ⟨rfl, rfl, rfl, by decide +kernel, rfl, by decide +kernel, by decide +kernel⟩
theorem ok_multiplied (F : Fun K "multiplied" "multiplied" F_multiplied f fd) (mn : mg "len" = none) (mr : mg "range" = none) (ms : mg "sum" = none) (UO : Use P w K mg base CX0 1 "over_one_lower" ["numbers"] (spOol K) []) (UR : Use P w K mg base CX0 1 "ratio" ["upper", "lower"] spLowQ []) : FnOk P w K mg base CX0 2 f fd ["one", "other"] (spMulL K) := by
  refine F.ok scMl (fun vs H Q E h => ?_) (fun cdv A outer s H vs Q E hr h => ?_)
  · obtain ⟨x, y, qs, rs, L, B, M, C, rfl, _⟩ := h
    rfl
  obtain ⟨x, y, qs, rs, L0, B0, M0, C0, rfl, lx, ly, le, l1, sL, lB, sM, lC, bz, cz, q⟩ := h
  have bq : AllO qs := bz.ok sL lB
  have br : AllO rs := cz.ok sM lC
  refine ⟨_, pss_cons (ps_asg (pe_use UO hr rfl pass0 (pa_cons (pv 0) pa_nil)) (pg_tup rfl (pgs_cons (pg_name (i := 2) scMl.nd rfl (Or.inr rfl)) (pgs_cons (pg_name (i := 3) scMl.nd rfl (Or.inl rfl)) pgs_nil))))
    (pss_cons (ps_asg (pe_use UO hr rfl pass0 (pa_cons (pv 1) pa_nil)) (pg_tup rfl (pgs_cons (pg_name (i := 4) scMl.nd rfl (Or.inr rfl)) (pgs_cons (pg_name (i := 5) scMl.nd rfl (Or.inl rfl)) pgs_nil))))
    (pss_cons (ps_set (i := 6) scMl.nd rfl (Or.inl rfl) (pe_lst pa_nil))
    (pss_cons (ps_for PassesOwn.never rfl (pi_range1 rfl mr (pa_cons (pe_callB call_len_seq rfl mn PySem.boot_len (pa_cons (pv 0) pa_nil)) pa_nil)) (pg_name (i := 7) scMl.nd rfl (Or.inr rfl))
      (pss_cons (ps_set (i := 8) scMl.nd rfl (Or.inl rfl) (pe_callB (cr_sum rfl) rfl ms (by decide +kernel) (pa_cons (pe_lc (own := [("at", 9)]) (g := gName 9) (tt := tYes) rfl scMl.nd (pi_range1 rfl mr (pa_cons (pe_op op_add (pv 7) pe_int) pa_nil)) (blkOk_by (N := nMl) (sc := defScope F_multiplied) (by decide +kernel))
          (fun _ _ _ _ _ => pg_name (i := 9) scMl.nd rfl (Or.inl rfl)) (fun _ _ _ _ _ => pts_nil)
          (fun _ _ _ _ _ => pe_op op_mulW (pe_ix (ixl_at K rfl) (pv 2) (pv 9) (fun _ _ => rfl)) (pe_ix (ixl_at K rfl) (pv 4) (pe_op op_sub (pv 7) (pv 9)) (fun _ _ => rfl)))) pa_nil)))
      (pss_one (ps_expr (pe_bm PySem.F.plainAttrs_list PySem.F.slot_list_append PySem.F.type_list_append mt_append (pv 6) (pa_cons (pe_use UR hr rfl pass0 (pa_cons (pv 8) (pa_cons (pe_op op_mulW (pv 3) (pv 5)) pa_nil))) pa_nil))))))
    (pss_one (ps_ret (pv 6)))))), ?_⟩
  refine ⟨_, rfl, x, qs, L0, B0, rfl, lx, by omega, sL, lB, bz, fun b1 p1 H1 s1 n1 e1 t1 => ?_⟩
  refine ⟨p1, _, rfl, SqT.of t1, rfl, _, _, rfl, _, _, rfl, rfl, ?_⟩
  refine ⟨_, rfl, y, rs, M0, C0, rfl, ly.same s1, by omega, sM, lC, cz, fun b2 p2 H2 s2 n2 e2 t2 => ?_⟩
  refine ⟨p2, _, rfl, SqT.of t2, rfl, _, _, rfl, _, _, rfl, rfl, ?_⟩
  have lx2 := (lx.same s1).same s2
  obtain ⟨xa, xs, rfl, hx, nx⟩ := lx2
  have hl : xs.length = qs.length := nx.1
  have f1 := s2 _ _ e1
  have s12 := s1.trans s2
  clear s1 s2 t1 t2 e1 n1 n2 lx ly nx
  refine ⟨(by show 0 ≤ sizeLine; decide), fun fb nf => ?_⟩
  have sf := new_same nf (HO.lst [])
  have Lp := lcmL_pos qs 1 (by decide)
  have Mp := lcmL_pos rs 1 (by decide)
  have Lb : lcmL 1 qs < 2 ^ 4450 := Nat.lt_of_le_of_lt (Nat.le_of_dvd sL.1 (AllD.lcm sL.1 qs 1 bz (Nat.one_dvd _))) sL.2
  have Mb : lcmL 1 rs < 2 ^ 4450 := Nat.lt_of_le_of_lt (Nat.le_of_dvd sM.1 (AllD.lcm sM.1 rs 1 cz (Nat.one_dvd _))) sM.2
  have dL := (lcmL_dvd qs 1).2
  have dM := (lcmL_dvd rs 1).2
  generalize lcmL 1 qs = L at *
  generalize lcmL 1 rs = M at *
  refine ⟨_, rfl, xa, xs, rfl, .inl (SqL.of (sf _ _ hx)), ?_⟩
  refine ⟨_, rfl, by omega, by omega, for_range (lo := 0) (n := (((xs.length : Nat) : Int)).toNat) (fun i σ H' => Same H2 H' ∧ (∃ v7 v8, σ = [some (.ref xa), some y, some (.ref b1), some (.int (L : Nat)), some (.ref b2), some (.int (M : Nat)), some (.ref fb), v7, v8, none]) ∧ ∃ zs, H' fb = some (.lst zs) ∧ Nl K H' zs ((List.range i).map (cnv qs rs))) ⟨sf, ⟨none, none, rfl⟩, [], upd_same, Nl.nil⟩ ?_ ?_⟩
  · rintro i σ H3 hi ⟨s3, ⟨v7, v8, rfl⟩, zs, hz, nz⟩
    rw [Int.toNat_natCast] at hi
    have g1 := s3 _ _ f1
    have g2 := s3 _ _ e2
    have zl : zs.length = i := by rw [nz.1, List.length_map, List.length_range]
    refine ⟨_, rfl, (0 + (i : Int)), 1, rfl, rfl, _, rfl, by omega, by omega, fun D nD => ?_⟩
    refine lc_acc (walk_range (lo := 0) (n := (0 + (i : Int) + 1).toNat)) (fun j _ v => v = .int ((upL L qs).getD j 0 * (upL M rs).getD (i - j) 0)) (fun j H H' v l h _ _ => h) nD (by omega) (fun _ _ => trivial) ?_ ?_
    · rintro j v H4 H5 k hj s4 ⟨rfl, rfl⟩ hk
      have hj' : j < i + 1 := by omega
      refine ⟨rfl, _, rfl, _, rfl, b1, _, (0 + (j : Int)), _, rfl, rfl, SqL.of (s4 _ _ g1), at_of (j := j) (by omega) (upL_at (by omega)), _, rfl, _, rfl, _, rfl, (0 + (i : Int)), (0 + (j : Int)), rfl, rfl, b2, _, _, _, rfl, rfl, SqL.of (s4 _ _ g2), at_of (j := i - j) (by omega) (upL_at (by omega)), _, _, rfl, rfl, ?_, hk _ _ (Same.refl _) rfl⟩
      exact wide_mul (upL_bd bq Lb j) (upL_bd br Mb (i - j)) (by decide) (by decide) (by decide)
    · intro H4 ys s4 hD hyl hR
      have ey : ys = (pds (upL L qs) (upL M rs) i (i + 1)).map V.int := by
        apply List.ext_getElem?
        intro j
        unfold pds
        rw [List.map_map, List.getElem?_map]
        by_cases c : j < i + 1
        · rw [List.getElem?_range c]
          have e := List.getElem?_eq_getElem (l := ys) (i := j) (by omega)
          rw [e, hR j _ e]
          rfl
        · rw [List.getElem?_eq_none (by omega), List.getElem?_eq_none (by rw [List.length_range]; omega)]
          rfl
      refine ⟨D, _, rfl, SqL.of (by rw [hD, ey]), ?_⟩
      refine ⟨_, rfl, .inl ⟨rfl, _, SqL.of (s4 _ _ hz)⟩, _, rfl, _, rfl, _, rfl, (L : Nat), (M : Nat), rfl, rfl, ?_, ?_⟩
      · exact wide_mul (a := 4450) (b := 4450) (by rw [Int.natAbs_natCast]; exact Lb) (by rw [Int.natAbs_natCast]; exact Mb) (by decide) (by decide) (by decide)
      · refine ⟨_, _, rfl, Int.mul_ne_zero (by omega) (by omega), log_two (by rw [Int.natAbs_natCast]; exact Lb) (by rw [Int.natAbs_natCast]; exact Mb), fun t H5 s5 n5 e5 => ?_⟩
        rw [cnv_ratio dL dM Lp Mp] at e5
        have hz5 := s5 _ _ (s4 _ _ hz)
        refine ⟨fb, zs, _, rfl, rfl, hz5, small1000 (by omega), ?_, ⟨_, _, rfl⟩, zs ++ [.ref t], upd_same, ?_⟩
        · intro b o hb
          have nb : b ≠ fb := fun z => by rw [z, nf] at hb; cases hb
          rw [upd_ne nb]
          exact s5 _ _ (s4 _ _ (s3 _ _ hb))
        · have nz5 := (nz.same s4).same s5
          have nb : Nl K H5 (zs ++ [.ref t]) ((List.range (i + 1)).map (cnv qs rs)) := by
            rw [List.range_succ, List.map_append]
            exact nz5.snoc (.at e5)
          exact ⟨nb.1, fun j x r h1 h2 => (nb.2 j x r h1 h2).butL hz5 (fun b o n h => by rw [upd_ne n]; exact h)⟩
  · rintro σ H3 ⟨s3, ⟨v7, v8, rfl⟩, zs, hz, nz⟩
    rw [Int.toNat_natCast, hl] at nz
    exact ⟨_, rfl, q fb H3 zs (s12.trans s3) (s12.free nf) hz nz⟩
end
end Kx
end
section
set_option maxHeartbeats 4000000
namespace PySem
namespace Xv
open PySem.W PySem.Calls PyProof.Rows PySem.HandSPX
section
variable {prog : Program} {w : World} {A : Around} {E : Value → Shared → Prop} {R : Result → Shared → Prop} {h : Heap} {g : Array GenState} {d : Drawn} {t : Nat} {os : OsState}
variable {nm q : Str} {C N : Addr} {bs bm mb : List Value} {hdct : Bool} {sn : List Str} {sub : List Value} {ab : Bool} {col : Option Bool} {dd : Option Addr} {k0 k1 k2 k3 k5 : Option Value} {B newId initId : String}
variable {kw : List (Str × Value)} {rest : List Value}

theorem chkNew {M : Model} (F : ExcBaseFacts B newId initId mb) (hT : ∀ Z : String, bm.contains (.type Z) = mb.contains (.type Z)) {Q : Unit → Shared → Prop}
    (hC : h.get? C = some (excClassObj nm q C N bs bm hdct sn sub ab col dd k0 k1 k2 k3 k5 newId)) (z : Q () ⟨h, g, d, t, os⟩) :
    wpAny M A (checkBuiltinCall newId ⟨.ref C :: rest, kw⟩) Q E ⟨h, g, d, t, os⟩ := by
  have h1 : (Value.ref C :: bm).contains (.type B) = true := by rw [List.contains_cons, hT, F.hasB]; simp
  have h2 := F.noStar
  simp only [checkBuiltinCall, F.newKind, F.newSplit, F.newRow]
  repeat (first | refine wpAny_loadPart_at hC ?_ | (refine wpAny_isSubtype_exc hC ?_; rw [h1]) | refine wpAny_staticBase_exc hC ?_ | refine wpAny_madeBy_exc hC ?_ | simp only [bne_self_eq_false, Bool.false_eq_true, if_false] | wp_step)
  exact z
theorem newAt (F : ExcBaseFacts B newId initId mb) (hT : ∀ Z : String, bm.contains (.type Z) = mb.contains (.type Z))
    (hC : h.get? C = some (excClassObj nm q C N bs bm hdct sn sub ab col dd k0 k1 k2 k3 k5 newId)) (hl : rest.length ≤ sizeLine)
    (z : R (.ok (.ret (.ref (h.objs.size + 1)))) ⟨(h.push (W.kdv_tup rest)).push (excO C h.objs.size), g, d, t, os⟩) :
    codeAny (model prog w) A (.builtin newId ⟨.ref C :: rest, kw⟩) R ⟨h, g, d, t, os⟩ := by
  have e0 := F.ends
  have e1 : (Value.ref C :: bm).contains (.type B) = true := by rw [List.contains_cons, hT, F.hasB]; simp
  have e2 : (Value.ref C :: bm).contains (.type "AttributeError") = false := by rw [List.contains_cons, hT, F.noAttr]; exact rfl
  have e3 : (Value.ref C :: bm).contains (.type "NameError") = false := by rw [List.contains_cons, hT, F.noName]; exact rfl
  refine codeAny_builtinAt F.entry ?_
  unfold Builtin.«BaseException.__new__»
  refine wpAt_bind ?_
  show wpAt _ _ _ (stack >>= _) _ _ _
  refine wpAt_bind (wpAt_stack fun p below => wpAt_of_wpAny ?_)
  wp_walk
  refine wpAt_of_wpAny ?_
  rw [F.owner]
  repeat (first | (with_reducible refine wpAny_isSubtype_exc hC ?_; first | rw [e1] | rw [e2] | rw [e3]) | with_reducible refine wpAny_madeHere_exc F.canon hC ?_ | with_reducible refine wpAny_loadPart_at hC ?_ | wp_step)
  show R _ _
  rw [Heap.size_push]
  exact z
theorem callAt (F : ExcBaseFacts B newId initId mb) (hT : ∀ Z : String, bm.contains (.type Z) = mb.contains (.type Z)) {fI : Addr} {Q : Fin → Shared → Prop}
    (hC : h.get? C = some (excClassObj nm q C N bs bm hdct sn sub ab col dd k0 k1 k2 k3 k5 newId))
    (hi : W.Looks (model prog w) h (typeLookup (.ref C) "__init__") (some (.ref fI))) (hb : ∀ self, W.Looks (model prog w) h (bindSpecial (.ref fI) self) (.ref fI, [self])) (hl : rest.length ≤ sizeLine)
    (z : codeAny (model prog w) A (.call (.ref fI) ⟨.ref (h.objs.size + 1) :: rest, kw⟩)
      (fun r s' => match r with | .ok (.ret v) => v = .none ∧ Q (.done (.ret (.ref (h.objs.size + 1)))) s' | .ok _ => False | .error e => E e s')
      ⟨(h.push (W.kdv_tup rest)).push (excO C h.objs.size), g, d, t, os⟩) :
    wpAny (model prog w) A (Builtin.«type.__call__» ⟨.ref C :: rest, kw⟩) Q E ⟨h, g, d, t, os⟩ := by
  repeat (first | with_reducible refine wpAny_madeBy_exc hC ?_ | with_reducible refine wpAny_loadPart_at hC ?_ | wp_step)
  refine codeAny_call_builtin_code (Code.quiet_builtin _ F.quiet) (chkNew F hT hC (newAt F hT hC hl ?_))
  show wpAny _ _ _ _ _ _
  have k : ∀ b o, h.get? b = some o → ((h.push (W.kdv_tup rest)).push (excO C h.objs.size)).get? b = some o := fun b o y => Heap.get?_push_of_some _ (Heap.get?_push_of_some _ y)
  have hC' := k _ _ hC
  have hg : ((h.push (W.kdv_tup rest)).push (excO C h.objs.size)).get? (h.objs.size + 1) = some (excO C h.objs.size) := by heap_get
  have cc : (Value.ref C :: bm).contains (.ref C) = true := by simp
  have i1 := hi.keeps k
  have b1 := (hb (.ref (h.objs.size + 1))).keeps k
  unfold isInstance
  repeat (first | (with_reducible refine wpAny_isSubtype_exc hC' ?_; rw [cc]) | with_reducible refine wpAny_loadPart_at hg ?_ | wp_step)
  show wpAny _ _ (typeLookup (.ref C) _) _ _ _
  refine i1.at (wpAny_holding (wpAny_bind (b1.at ?_)))
  refine wpAny_bind (wpAny_call (codeAny_mono z fun r s' y => ?_))
  rcases r with e | (v | _ | _ | _) <;> first | exact y | exact y.elim | skip
  obtain ⟨rfl, y⟩ := y
  first
    | exact wpAny_pure (wpAny_pure y)
    | (wp_walk; exact y)
theorem chkCall {M : Model} {Q : Unit → Shared → Prop} (hC : h.get? C = some (excClassObj nm q C N bs bm hdct sn sub ab col dd k0 k1 k2 k3 k5 newId))
    (z : Q () ⟨h, g, d, t, os⟩) : wpAny M A (checkBuiltinCall "type.__call__" ⟨.ref C :: rest, kw⟩) Q E ⟨h, g, d, t, os⟩ := by
  have f3 := tc_sub
  have hty : (⟨h, g, d, t, os⟩ : Shared).TypeIs (.ref C) "type" := ⟨_, hC, rfl⟩
  simp only [checkBuiltinCall, tc_kind, tc_split]
  repeat (any_goals (first | assumption | with_reducible refine wpAny_onRaise ?_ | with_reducible refine wpAny_loadPart_at hC ?_ | with_reducible refine wpAny_map ?_ | wp_step))
/-- an own exception class with its own __init__ is called, with keywords or without -/
theorem callK (F : ExcBaseFacts B newId initId mb) (hT : ∀ Z : String, bm.contains (.type Z) = mb.contains (.type Z)) {fI : Addr}
    (hC : h.get? C = some (excClassObj nm q C N bs bm hdct sn sub ab col dd k0 k1 k2 k3 k5 newId))
    (hi : W.Looks (model prog w) h (typeLookup (.ref C) "__init__") (some (.ref fI))) (hb : ∀ self, W.Looks (model prog w) h (bindSpecial (.ref fI) self) (.ref fI, [self])) (hl : rest.length ≤ sizeLine)
    (z : codeAny (model prog w) (A.under (.builtin "type.__call__" ⟨.ref C :: rest, kw⟩)) (.call (.ref fI) ⟨.ref (h.objs.size + 1) :: rest, kw⟩) (W.InitBack (h.objs.size + 1) R)
      ⟨(h.push (W.kdv_tup rest)).push (excO C h.objs.size), g, d, t, os⟩) :
    codeAny (model prog w) A (.call (.ref C) ⟨rest, kw⟩) R ⟨h, g, d, t, os⟩ := by
  have f1 := tc_lookup
  have f2 := tc_bind (.ref C)
  have hty : (⟨h, g, d, t, os⟩ : Shared).TypeIs (.ref C) "type" := ⟨_, hC, rfl⟩
  refine codeAny_of_tree ?_
  show wpAny _ _ (callAny (.ref C) _) _ _ _
  repeat (any_goals (first | assumption | with_reducible refine wpAny_loadPart_at hC ?_ | wp_step))
  refine ⟨rfl, ?_⟩
  refine codeAny_call_builtin_at (Code.quiet_builtin _ (by decide +kernel)) entry_typeCall (chkCall hC (callAt F hT hC hi hb hl ?_))
  refine codeAny_mono z fun r s' y => ?_
  rcases r with e | (v | _ | _ | _) <;> exact y
end
end Xv
end PySem
end
section
set_option maxHeartbeats 4000000
namespace L2
open PySem PySem.Spec PyProof.Rows Builtin.ObjectAttr
/-- what the written part says of an own exception class at C, so that its objects may be made, filled, read and asked -/
structure XC (K : PySem.W.Frag) (C : Addr) : Prop where
  base : ∃ B newId initId mb, ExcBaseFacts B newId initId mb ∧ StoreFacts B mb "object.__setattr__" "object" ∧ PySem.W.excInitIn K C mb newId = true ∧ PySem.W.excOver K C mb = true
  cl : (PySem.W.clsIn K C).isSome = true
  hd : PySem.W.hasDictIn K C = true
  sa : PySem.W.findIn K (.ref C) "__setattr__" = some (some (.builtin "object.__setattr__"))
  ga : PySem.W.findIn K (.ref C) "__getattribute__" = some (some (.builtin "BaseException.__getattribute__"))
  gg : PySem.W.findIn K (.ref C) "__getattr__" = some none
  ex : PySem.W.subIn K (.ref C) (.type "BaseException") = some true
  ha : PySem.W.findIn K (.ref C) "__class__" = some (some (.builtin "object.__class__"))
  hn : PySem.W.specialIn K (.builtin "object.__class__") "__get__" = some (some (.builtin "getset_descriptor.__get__"))
  ht : PySem.W.takesIn K (.builtin "object.__class__") = some true
  hm : PySem.W.mroIn K C (.type "object") = some true
  kC : PySem.W.keepIn K (.ref C) = true
def free3 (H H' : Hp) (a d : Addr) : Prop := ∀ b, b ≠ a → b ≠ d → H' b = H b
section
variable {X : Cx} {pins : List (Addr × Obj)} {σ : St} {H : Hp} {s : Shared} {a C dx : Addr} {f : Str} {y : V} {u : Value} {fs : List (Str × V)} {Q : Unit → Shared → Prop} {E : Value → Shared → Prop} {A : Around}
theorem taker_none {K : PySem.W.Frag} (h : PySem.W.findIn K (.ref C) f = some none) : PySem.W.takerIn K C f = some none := by
  unfold PySem.W.takerIn
  rw [h]
  rfl
theorem xst_new (T : XC X.K C) (I : Inv X pins σ H s) (e : H a = some (exo a C none)) (hno : PySem.W.findIn X.K (.ref C) f = some none) (ry : RelV y u)
    (h : ∀ d s' H', d ≠ a → H d = none → H' a = some (exo a C (some d)) → H' d = some (exd d [(f, y)]) → free3 H H' a d → Inv X pins σ H' s' → Q () s') : wpAny (model X.prog X.w) A (setAttr (.ref a) f u) Q E s := by
  obtain ⟨B, nid, iid, mb, FB, SF, q1, q2⟩ := T.base
  obtain ⟨t1, ho⟩ := exo_at I.hok e
  obtain ⟨cd, hc, hd'⟩ := PySem.W.any_some T.hd
  obtain ⟨hp, g, dr, t, os⟩ := s
  refine PySem.W.set_plain I.kIn (od := none) ⟨ho, rfl, rfl, trivial⟩ T.sa (PySem.W.osa_openX (od := none) SF I.kIn ⟨ho, rfl, rfl, trivial⟩ q2 (taker_none hno) fun b => ?_)
  have na : a ≠ hp.objs.size := Nat.ne_of_lt (Heap.lt_size ho)
  refine wpAny_bind (wpAny_pure (wpAny_bind (PySem.W.instanceDict_exc (c2 := .none) (t := t1) ho (PySem.W.looks_clsIn I.kIn hc) hd' ?_)))
  have hfr : H hp.objs.size = none := I.hok.fresh (Nat.le_refl _)
  have hget : (hp.push (PySem.W.dictOf [] 0)).get? hp.objs.size = some (PySem.W.dictOf [] 0) := Heap.get?_push_size _ rfl
  have en : (hp.push (PySem.W.dictOf [] 0)).Ns1 hp.objs.size (fun _ => none) := Heap.Ns1.of_empty ⟨_, #[], _, hget, rfl, fun e he => absurd he (by simp), fun _ => rfl⟩
  have I1 : Inv X pins σ (upd H hp.objs.size (exd hp.objs.size [])) ⟨hp.push (PySem.W.dictOf [] 0), g, dr, t, os⟩ := I.laid (a := hp.objs.size) (o := exd hp.objs.size []) (h' := hp.push (PySem.W.dictOf [] 0)) (t' := t) (fun b o z => Heap.get?_push_of_some _ z) (Nat.le_refl _) (exd_ok en fun _ => True.intro)
  have hxa : ((hp.push (PySem.W.dictOf [] 0)).update a fun o => { o with dict := some hp.objs.size }).get? a = some ({ cls := .ref C, dict := some hp.objs.size, data := .fields #[.ref t1, .none, .none, .none, .bool false, .none] } : Obj) :=
    Heap.get?_update_self _ (Heap.get?_push_of_some _ ho) rfl
  have I2 : Inv X pins σ (upd (upd H hp.objs.size (exd hp.objs.size [])) a (exo a C (some hp.objs.size))) ⟨(hp.push (PySem.W.dictOf [] 0)).update a fun o => { o with dict := some hp.objs.size }, g, dr, t, os⟩ :=
    I1.write (x := a) (e := a) (o := exo a C (some hp.objs.size)) (t' := t) (h' := (hp.push (PySem.W.dictOf [] 0)).update a fun o => { o with dict := some hp.objs.size }) (by rw [upd_ne na, e]; exact True.intro) (.inl rfl)
      (fun b o hb z => (Heap.get?_update_ne _ _ _ _ hb).trans z) ⟨_, hxa⟩ (exo_ok hxa)
  have ed : (upd (upd H hp.objs.size (exd hp.objs.size [])) a (exo a C (some hp.objs.size))) hp.objs.size = some (exd hp.objs.size []) := by rw [upd_ne (Ne.symm na), upd_same]
  obtain ⟨mA, hns, rel⟩ := exd_at I2.hok ed
  show wpAny _ _ (storeInDict hp.objs.size (.str f _) f u) _ _ _
  refine PySem.OEX.store_in_old hns (within_of rel) (by simp) fun h' tk' hn' hs => ?_
  have I3 := I2.write (x := hp.objs.size) (e := hp.objs.size) (o := exd hp.objs.size [(f, y)]) (t' := tk') (h' := h') (by rw [ed]; exact True.intro) (.inl rfl) (fun b o hb z => (hs.2 b hb).trans z)
    (by obtain ⟨o, _, _, z, _⟩ := hn'; exact ⟨o, z⟩) (exd_ok hn' (relO_put ry rel))
  exact h hp.objs.size _ _ (Ne.symm na) hfr (by rw [upd_ne na, upd_same]) upd_same (fun b h1 h2 => by rw [upd_ne h2, upd_ne h1, upd_ne h2]) I3
theorem xst_old (T : XC X.K C) (I : Inv X pins σ H s) (e : H a = some (exo a C (some dx))) (ed : H dx = some (exd dx fs)) (hl : fs.length ≤ 900) (hno : PySem.W.findIn X.K (.ref C) f = some none) (ry : RelV y u)
    (h : ∀ s', Inv X pins σ (upd H dx (exd dx ((f, y) :: fs))) s' → Q () s') : wpAny (model X.prog X.w) A (setAttr (.ref a) f u) Q E s := by
  obtain ⟨B, nid, iid, mb, FB, SF, q1, q2⟩ := T.base
  obtain ⟨t1, ho⟩ := exo_at I.hok e
  obtain ⟨mA, hns, rel⟩ := exd_at I.hok ed
  have hw := within_of rel
  obtain ⟨cd, hc, hd'⟩ := PySem.W.any_some T.hd
  obtain ⟨hp, g, dr, t, os⟩ := s
  obtain ⟨oD, esD, epD, hoD, hdD, _⟩ := hns.count hw
  refine PySem.W.set_plain I.kIn (od := some oD) ⟨ho, rfl, rfl, hoD⟩ T.sa (PySem.W.osa_openX (od := some oD) SF I.kIn ⟨ho, rfl, rfl, hoD⟩ q2 (taker_none hno) fun b => ?_)
  refine wpAny_bind (wpAny_pure (wpAny_bind (wpAny_bind (wpAny_loadPart ho (wpAny_bind (PySem.W.Looks.at (M := model X.prog X.w) (PySem.W.looks_clsIn I.kIn hc) ?_))))))
  rw [hd']
  refine wpAny_pure (a := some dx) ?_
  show wpAny _ _ (storeInDict dx (.str f _) f u) _ _ _
  refine PySem.OEX.store_in_old hns hw (by rw [List.length_map]; omega) fun h' tk' hn' hs => ?_
  exact h _ (I.write (x := dx) (e := dx) (o := exd dx ((f, y) :: fs)) (t' := tk') (h' := h') (by rw [ed]; exact True.intro) (.inl rfl) (fun b o hb z => (hs.2 b hb).trans z)
    (by obtain ⟨o, _, _, z, _⟩ := hn'; exact ⟨o, z⟩) (exd_ok hn' (relO_put ry rel)))
end
end L2
namespace L2
open PySem PySem.Spec PyProof.Rows Builtin.ObjectAttr
/-- self.f = e, self an exception that is being made -/
def tXst (K : PySem.W.Frag) (f : Str) (to te : TE) : TS := fun D σ H => te σ H fun y H1 => to σ H1 fun x H2 => ∃ a C : Addr, x = .ref a ∧ XC K C ∧ PySem.W.findIn K (.ref C) f = some none ∧
  ((H2 a = some (exo a C none) ∧ ∀ d H3, d ≠ a → H2 d = none → H3 a = some (exo a C (some d)) → H3 d = some (exd d [(f, y)]) → free3 H2 H3 a d → D.nx σ H3) ∨
    ∃ (d : Addr) (fs : List (Str × V)), H2 a = some (exo a C (some d)) ∧ H2 d = some (exd d fs) ∧ fs.length ≤ 900 ∧ D.nx σ (upd H2 d (exd d ((f, y) :: fs))))
section
variable {X : Cx} {o e : Expr} {to te : TE} {f : Str} {p' pos : Pos}
theorem ps_xst (ho : PE X o to) (he : PE X e te) (hs : swapsWith e (some (.Attribute o f p')) pos.line X.env = pure false := by rfl) : PS X (.Assign [.Attribute o f p'] e pos) (tXst X.K f to te) := by
  refine ⟨fun pins s σ H D I h => ?_⟩
  refine plainObj_wpAny_Assign_Attribute (thn (he.run pins s σ H _ I h) fun v s1 hv => ?_) hs
  obtain ⟨y, H1, I1, r1, q1⟩ := hv
  refine thn (ho.run pins s1 σ H1 _ I1 q1) fun u s2 hu => ?_
  obtain ⟨x, H2, I2, r2, a, C, ex, T, hno, q⟩ := hu
  subst ex
  obtain rfl : u = Value.ref a := r2
  rcases q with ⟨ea, q⟩ | ⟨d, fs, ea, ed, hl, q⟩
  · exact xst_new T I2 ea hno r1 fun d s' H' n1 n2 z1 z2 z3 J => ⟨σ, H', J, q d H' n1 n2 z1 z2 z3⟩
  · exact xst_old T I2 ea ed hl hno r1 fun s' J => ⟨σ, _, J, q⟩
end
/-- C(e, .., k = v, ..) as a value; sp is what C's own __init__ promises -/
def tXmk (C : Addr) (n m : Nat) (sp : Sp) (gV : List V → List V → List V) (t tk : TA) : TE := fun σ H Q => t σ H fun vs H1 => tk σ H1 fun zs H2 => vs.length = n ∧ zs.length = m ∧
  ∀ a, H2 a = none → sp (gV (.ref a :: vs) zs) (upd H2 a (exo a C none)) (fun v H3 => v = .non ∧ Q (.ref a) H3) (fun _ _ _ => False)
section
variable {X : Cx} {CX : CXT} {k n : Nat} {C fI : Addr} {fd : FuncData} {ps ks : List Str} {sp : Sp} {x : Str} {p pos : Pos} {e : Expr} {es : List Expr} {kws : List Keyword} {t tk : TA} {g : List Value → List Value → List Value} {gV : List V → List V → List V}
theorem run_xmk {pins : List (Addr × Obj)} {σ : St} {H : Hp} {s : Shared} {Q : VK} {us ws : List Value} {vs zs : List V} (T : XC X.K C) (iC : PySem.W.findIn X.K (.ref C) "__init__" = some (some (.ref fI))) (tI : PySem.W.isFn X.K (.ref fI) = true)
    (F : FnOk X.prog X.w X.K X.mg X.base CX k fI fd ps sp) (hr : Room (k + 1) X.A) (hb : KBn X.K fd ps (n + 1) ks g gV) (hx : Passes CX X (fun _ _ _ => False)) (I : Inv X pins σ H s) (r : Vals vs us) (rz : Vals zs ws) (l1 : vs.length = n) (l2 : zs.length = ks.length) (l3 : n ≤ 1000)
    (h : ∀ a, H a = none → sp (gV (.ref a :: vs) zs) (upd H a (exo a C none)) (fun v H3 => v = .non ∧ Q (.ref a) H3) (fun _ _ _ => False)) :
    wpAny (model X.prog X.w) X.A (call (.ref C) us (ks.zip ws)) (EP X pins σ Q) X.xe s := by
  obtain ⟨B, nid, iid, mb, FB, SF, q1, q2⟩ := T.base
  obtain ⟨nm, N, qn, bs, bm, hdct, sn, sub, ab, col, dd, k0, k1, k2, k3, k5, hC, hT⟩ := PySem.W.excInit_of I.kIn q1
  obtain ⟨oI, hoI, hcI⟩ : ∃ oI, s.heap.get? fI = some oI ∧ oI.cls = .type "function" := by
    obtain ⟨o, ho, hc⟩ := Option.map_eq_some_iff.mp (show (X.K.lookup fI).map (·.cls) = some (.type "function") from beq_iff_eq.mp tI)
    exact ⟨o, I.kIn _ _ ho, hc⟩
  obtain ⟨hp, gn, dr, tc, os⟩ := s
  have hsz : hp.objs.size ≤ hp.objs.size + 1 := Nat.le_succ _
  have hn : H (hp.objs.size + 1) = none := I.hok.fresh hsz
  have hq := h (hp.objs.size + 1) hn
  have kk : ∀ b o, hp.get? b = some o → ((hp.push (PySem.W.kdv_tup us)).push (PySem.HandSPX.excO C hp.objs.size)).get? b = some o := fun b o z => Heap.get?_push_of_some _ (Heap.get?_push_of_some _ z)
  have hget : ((hp.push (PySem.W.kdv_tup us)).push (PySem.HandSPX.excO C hp.objs.size)).get? (hp.objs.size + 1) = some (PySem.HandSPX.excO C hp.objs.size) := by heap_get
  have I2 : Inv X pins σ (upd H (hp.objs.size + 1) (exo (hp.objs.size + 1) C none)) ⟨(hp.push (PySem.W.kdv_tup us)).push (PySem.HandSPX.excO C hp.objs.size), gn, dr, tc, os⟩ :=
    I.laid (t' := tc) (a := hp.objs.size + 1) (o := exo (hp.objs.size + 1) C none) (h' := (hp.push (PySem.W.kdv_tup us)).push (PySem.HandSPX.excO C hp.objs.size)) kk hsz (exo_ok hget)
  have r1 : Vals (V.ref (hp.objs.size + 1) :: vs) (Value.ref (hp.objs.size + 1) :: us) := .cons rfl r
  have e1 : (Value.ref (hp.objs.size + 1) :: us).length = n + 1 := r1.length.symm.trans (congrArg Nat.succ l1)
  have e2 : ws.length = ks.length := rz.length.symm.trans l2
  have hus : us.length ≤ sizeLine := by
    rw [← r.length, sizeLine_eq]
    omega
  refine wpAny_call (PySem.Xv.callK FB hT hC (PySem.W.looks_findIn I.kIn iC) (fun self => PySem.W.exc_bind hoI hcI self) hus
    (codeAny_mono (F.run _ X.stack _ _ ⟨Value.ref (hp.objs.size + 1) :: us, ks.zip ws⟩ (g (Value.ref (hp.objs.size + 1) :: us) ws) _ _ (fun _ _ _ => False) (hr.make C us (ks.zip ws)) (I2.env0.make C us (ks.zip ws)) (hb.to _ (Value.ref (hp.objs.size + 1) :: us) ws I2.kIn e1 e2) (hb.rel r1 rz) hq) fun r s' hq' => ?_))
  cases r with
  | error er => exact hx pins σ _ _ er s' I2 hq'
  | ok fl =>
    cases fl with
    | ret u =>
      obtain ⟨v, H', I3, rv, ev, q3⟩ := I2.after hq'
      subst ev
      exact ⟨rv, V.ref (hp.objs.size + 1), H', I3, rfl, q3⟩
    | next => exact hq'.elim
    | brk => exact hq'.elim
    | cont => exact hq'.elim
/-- positional values (one or more), keywords -/
theorem pe_xmk (T : XC X.K C) (iC : PySem.W.findIn X.K (.ref C) "__init__" = some (some (.ref fI))) (tI : PySem.W.isFn X.K (.ref fI) = true) (F : FnOk X.prog X.w X.K X.mg X.base CX k fI fd ps sp) (hr : Room (k + 1) X.A) (hg : Gl X x) (hm : X.mg x = some (.ref C)) (hb : KBn X.K fd ps (n + 1) ks g gV) (hx : Passes CX X (fun _ _ _ => False)) (l3 : n ≤ 1000)
    (ha : PA X (e :: es) t) (hkw : PK X kws tk) (hall : (backToKw pos (keywordEach kws X.env)).all (·.1.isSome) = true := by rfl) (hks : (backToKw pos (keywordEach kws X.env)).filterMap (·.1) = ks := by rfl)
    (hdb : (x == ("__debug__" : Str)) = false := by decide) (he : starEach (e :: es) X.env = (false, eval e X.env) :: starEach es X.env := by rfl)
    (hpl : ((backTo pos (starEach (e :: es) X.env)).any (·.1) || (backToKw pos (keywordEach kws X.env)).any (·.1.isNone)) = false := by rfl) :
    PE X (.Call (.Name x p) (e :: es) kws pos) (tXmk C n ks.length sp gV t tk) := by
  refine ⟨fun pins s σ H Q I h => wpAny_Call_Name_kw (ld_glob I hg hm ?_ hdb)⟩
  refine PySem.W.callWith_KW (h₀ := X.base) I.ok.mod.kin T.kC hall (thn (ha.run pos pins s σ H _ I h) fun us s1 hu => ?_) hpl he
  obtain ⟨vs, H1, I1, r, q⟩ := hu
  refine thn (hkw.run pos pins s1 σ H1 _ I1 q) fun ws s2 hw => ?_
  obtain ⟨zs, H2, I2, rz, l1, l2, q2⟩ := hw
  refine ⟨I2.kIn, ?_⟩
  rw [hks]
  exact run_xmk T iC tI F hr hb hx I2 r rz l1 l2 l3 q2
/-- keywords alone -/
theorem pe_xmkK (T : XC X.K C) (iC : PySem.W.findIn X.K (.ref C) "__init__" = some (some (.ref fI))) (tI : PySem.W.isFn X.K (.ref fI) = true) (F : FnOk X.prog X.w X.K X.mg X.base CX k fI fd ps sp) (hr : Room (k + 1) X.A) (hg : Gl X x) (hm : X.mg x = some (.ref C)) (hb : KBn X.K fd ps 1 ks g gV) (hx : Passes CX X (fun _ _ _ => False))
    (hkw : PK X kws tk) (hall : (backToKw pos (keywordEach kws X.env)).all (·.1.isSome) = true := by rfl) (hks : (backToKw pos (keywordEach kws X.env)).filterMap (·.1) = ks := by rfl)
    (hdb : (x == ("__debug__" : Str)) = false := by decide) (hpl : ((backTo pos (starEach [] X.env)).any (·.1) || (backToKw pos (keywordEach kws X.env)).any (·.1.isNone)) = false := by rfl) :
    PE X (.Call (.Name x p) [] kws pos) (tXmk C 0 ks.length sp gV tNil tk) := by
  refine ⟨fun pins s σ H Q I h => wpAny_Call_Name_kw (ld_glob I hg hm ?_ hdb)⟩
  refine PySem.W.callWith_KW0 (h₀ := X.base) I.ok.mod.kin T.kC hall ?_ hpl
  refine thn (hkw.run pos pins s σ H _ I h) fun ws s2 hw => ?_
  obtain ⟨zs, H2, I2, rz, l1, l2, q2⟩ := hw
  refine ⟨I2.kIn, ?_⟩
  rw [hks]
  exact run_xmk (us := []) T iC tI F hr hb hx I2 .nil rz rfl l2 (by decide) q2
/-- one value or more, no keyword -/
theorem pe_xmkP (T : XC X.K C) (iC : PySem.W.findIn X.K (.ref C) "__init__" = some (some (.ref fI))) (tI : PySem.W.isFn X.K (.ref fI) = true) (F : FnOk X.prog X.w X.K X.mg X.base CX k fI fd ps sp) (hr : Room (k + 1) X.A) (hg : Gl X x) (hm : X.mg x = some (.ref C)) (hb : KBn X.K fd ps (n + 1) [] g gV) (hx : Passes CX X (fun _ _ _ => False)) (l3 : n ≤ 1000)
    (ha : PA X (e :: es) t) (hdb : (x == ("__debug__" : Str)) = false := by decide) (he : starEach (e :: es) X.env = (false, eval e X.env) :: starEach es X.env := by rfl) (hpl : (backTo pos (starEach es X.env)).any (·.1) = false := by rfl) :
    PE X (.Call (.Name x p) (e :: es) [] pos) (tXmk C n 0 sp gV t tNil) := by
  refine ⟨fun pins s σ H Q I h => wpAny_Call_Name_kw (ld_glob I hg hm ?_ hdb)⟩
  refine PySem.W.callWith_K (h₀ := X.base) I.ok.mod.kin T.kC (thn (ha.run pos pins s σ H _ I h) fun us s1 hu => ?_) he hpl
  obtain ⟨vs, H1, I1, r, l1, l2, q2⟩ := hu
  exact ⟨I1.kIn, run_xmk (ws := []) (zs := []) T iC tI F hr hb hx I1 r .nil l1 rfl l3 q2⟩
/-- no value -/
theorem pe_xmk0 (T : XC X.K C) (iC : PySem.W.findIn X.K (.ref C) "__init__" = some (some (.ref fI))) (tI : PySem.W.isFn X.K (.ref fI) = true) (F : FnOk X.prog X.w X.K X.mg X.base CX k fI fd ps sp) (hr : Room (k + 1) X.A) (hg : Gl X x) (hm : X.mg x = some (.ref C)) (hb : KBn X.K fd ps 1 [] g gV) (hx : Passes CX X (fun _ _ _ => False))
    (hdb : (x == ("__debug__" : Str)) = false := by decide) : PE X (.Call (.Name x p) [] [] pos) (tXmk C 0 0 sp gV tNil tNil) := by
  refine ⟨fun pins s σ H Q I h => wpAny_Call_Name_kw (ld_glob I hg hm ?_ hdb)⟩
  obtain ⟨_, _, q2⟩ := h
  exact PySem.W.callWith_K0 I.kIn T.kC (run_xmk (us := []) (ws := []) (zs := []) T iC tI F hr hb hx I .nil .nil rfl rfl (by decide) q2)
end
/-- e.f, e such an exception -/
def tXat (K : PySem.W.Frag) (f : Str) (te : TE) : TE := fun σ H Q => te σ H fun x H1 => ∃ (a C d : Addr) (fs : List (Str × V)) (v : V), x = .ref a ∧ XC K C ∧ PySem.W.findIn K (.ref C) f = some none ∧ H1 a = some (exo a C (some d)) ∧ H1 d = some (exd d fs) ∧ fs.lookup f = some v ∧ Q v H1
theorem inst_exo {X : Cx} {pins : List (Addr × Obj)} {σ : St} {H : Hp} {s : Shared} {a C d : Addr} {fs : List (Str × V)} (I : Inv X pins σ H s) (ea : H a = some (exo a C (some d))) (ed : H d = some (exd d fs)) :
    ∃ (ox od : Obj) (mA : Str → Option Value), PySem.W.InstAt s.heap a ox C (some od) ∧ (∀ f, RelO (fs.lookup f) (mA f)) ∧ ∀ f, PySem.W.lookIn f od = some (mA f) := by
  obtain ⟨t1, ho⟩ := exo_at I.hok ea
  obtain ⟨mA, hns, hr⟩ := exd_at I.hok ed
  obtain ⟨od, hod, hl⟩ := lookIn_ns hns
  exact ⟨_, od, mA, ⟨ho, rfl, rfl, hod⟩, hr, hl⟩
theorem pe_xat {X : Cx} {e : Expr} {te : TE} {pos : Pos} {f : Str} (he : PE X e te) (hb : attributeBase e f X.env (eval e X.env) = eval e X.env := by rfl) : PE X (.Attribute e f pos) (tXat X.K f te) := by
  refine ⟨fun pins s σ H Q I h => attr_of hb (thn (he.run pins s σ H _ I h) fun u s1 hh => ?_)⟩
  obtain ⟨x, H1, I1, rx, a, C, d, fs, v, ex, T, hno, ea, ed, l, q⟩ := hh
  subst ex
  obtain rfl : u = Value.ref a := rx
  obtain ⟨ox, od, mA, J, hr, hl⟩ := inst_exo I1 ea ed
  obtain ⟨u, hu, ru⟩ := RelO.some_of (v := v) (o := mA f) (by rw [← l]; exact hr f)
  exact HandSPX.exc_get I1.kIn J T.ga T.gg T.ex (PySem.W.findObj_own T.hd hno rfl (by rw [hl, hu])) (handed_of ru) ⟨v, H1, I1.tok _, ru, q⟩
/-- isinstance(e, c), e such an exception -/
def rXis (K : PySem.W.Frag) : List V → Hp → VK → Prop := fun xs H Q => ∃ (a C d : Addr) (fs : List (Str × V)) (c : V) (cv : Value) (b : Bool), xs = [.ref a, c] ∧ XC K C ∧ H a = some (exo a C (some d)) ∧ H d = some (exd d fs) ∧ ClsV c cv ∧ PySem.W.kitOne K (.ref C) cv = some b ∧ Q (.bl b) H
theorem call_xis {X : Cx} : CallR X (.builtin "isinstance") (rXis X.K) := by
  intro pins s σ H xs us Q I r h
  obtain ⟨a, C, d, fs, c, cv, b, rfl, T, ea, ed, hc, e, q⟩ := h
  obtain ⟨u1, u2, rfl, r1, r2⟩ := vals2 r
  obtain rfl := hc.eq r2
  obtain rfl : u1 = Value.ref a := r1
  obtain ⟨ox, od, mA, J, _, _⟩ := inst_exo I ea ed
  exact PySem.W.kia_one (PySem.W.kitx_exc T.cl T.ga T.gg T.ex T.ha T.hn T.ht T.hm) I.kIn J e (fun z => nomatch z) fun tk => ⟨.bl b, H, I.tok tk, rfl, q⟩
end L2
end
section
set_option maxHeartbeats 4000000
namespace L2
open PySem PySem.Spec PyProof.Rows Builtin.ObjectAttr
section
variable {X : Cx} {CX : CXT} {k : Nat} {C fI : Addr} {fd : FuncData} {ps : List Str} {sp : Sp} {x : Str} {p pos : Pos} {e : Expr} {es : List Expr} {ta : TA}
/-- raise C(..), C an own exception class with its own __init__, over any built-in base -/
theorem run_pmk {pins : List (Addr × Obj)} {σ : St} {H1 : Hp} {s1 : Shared} {Q : XK} {us : List Value} {vs : List V} (T : XC X.K C) (tyC : PySem.W.typeIn X.K (.ref C) = some (.type "type")) (iC : PySem.W.findIn X.K (.ref C) "__init__" = some (some (.ref fI))) (tI : PySem.W.isFn X.K (.ref fI) = true)
    (F1 : FnOk X.prog X.w X.K X.mg X.base CX k fI fd ps sp) (hr : Room (k + 1) X.A) (hb : Binds X.K fd ps []) (hx : Passes CX X (fun _ _ _ => False)) (I1 : Inv X pins σ H1 s1) (r1 : Vals vs us) (hz : vs.length ≤ 1000)
    (q1 : ∀ a, H1 a = none → sp (.ref a :: vs) (upd H1 a (exo a C none)) (fun v H2 => v = .non ∧ ∃ (d : Addr) (fs : List (Str × V)), H2 a = some (exo a C (some d)) ∧ H2 d = some (exd d fs) ∧ H1 d = none ∧ Q (.ref C) (some d) (upd (del H2 a) d (.xd fs))) (fun _ _ _ => False)) :
    wpAny (model X.prog X.w) X.A (call (.ref C) us []) (MkP X pins σ Q) X.xe s1 := by
  obtain ⟨B, nid, iid, mb, FB, SF, qa, qb⟩ := T.base
  obtain ⟨nm, N, qn, bs, bm, hdct, sn, sub, ab, col, dd, k0, k1, k2, k3, k5, hC, hT⟩ := PySem.W.excInit_of I1.kIn qa
  obtain ⟨oI, hoI, hcI⟩ : ∃ oI, s1.heap.get? fI = some oI ∧ oI.cls = .type "function" := by
    obtain ⟨o, ho, hc⟩ := Option.map_eq_some_iff.mp (show (X.K.lookup fI).map (·.cls) = some (.type "function") from beq_iff_eq.mp tI)
    exact ⟨o, I1.kIn _ _ ho, hc⟩
  obtain ⟨hp, g, dr, tk, os⟩ := s1
  have hsz : hp.objs.size ≤ hp.objs.size + 1 := Nat.le_succ _
  have hn : H1 (hp.objs.size + 1) = none := I1.hok.fresh hsz
  have hq := q1 (hp.objs.size + 1) hn
  have kk : ∀ b o, hp.get? b = some o → ((hp.push (PySem.W.kdv_tup us)).push (PySem.HandSPX.excO C hp.objs.size)).get? b = some o := fun b o z => Heap.get?_push_of_some _ (Heap.get?_push_of_some _ z)
  have hget : ((hp.push (PySem.W.kdv_tup us)).push (PySem.HandSPX.excO C hp.objs.size)).get? (hp.objs.size + 1) = some (PySem.HandSPX.excO C hp.objs.size) := by heap_get
  have I2 : Inv X pins σ (upd H1 (hp.objs.size + 1) (exo (hp.objs.size + 1) C none)) ⟨(hp.push (PySem.W.kdv_tup us)).push (PySem.HandSPX.excO C hp.objs.size), g, dr, tk, os⟩ :=
    I1.laid (t' := tk) (a := hp.objs.size + 1) (o := exo (hp.objs.size + 1) C none) (h' := (hp.push (PySem.W.kdv_tup us)).push (PySem.HandSPX.excO C hp.objs.size)) kk hsz (exo_ok hget)
  have r2 : Vals (V.ref (hp.objs.size + 1) :: vs) (Value.ref (hp.objs.size + 1) :: us) := .cons rfl r1
  have hl : (Value.ref (hp.objs.size + 1) :: us).length = ps.length := by
    have z := r2.length
    rw [F1.len _ _ _ _ hq] at z
    exact z.symm
  have hus : us.length ≤ sizeLine := by
    rw [← Paired.length r1, sizeLine_eq]
    omega
  have hb2 := hb ⟨(hp.push (PySem.W.kdv_tup us)).push (PySem.HandSPX.excO C hp.objs.size), g, dr, tk, os⟩ (Value.ref (hp.objs.size + 1) :: us) I2.kIn (by rw [List.append_nil]; exact hl)
  rw [List.append_nil] at hb2
  refine wpAny_call (PySem.Xv.callK (kw := []) FB hT hC (PySem.W.looks_findIn I1.kIn iC) (fun self => PySem.W.exc_bind hoI hcI self) hus
    (codeAny_mono (F1.run _ X.stack _ _ ⟨Value.ref (hp.objs.size + 1) :: us, []⟩ (Value.ref (hp.objs.size + 1) :: us) _ _ (fun _ _ _ => False) (hr.make C us []) (I2.env0.make C us []) hb2 r2 hq) fun r s' hq' => ?_))
  cases r with
  | error er => exact hx pins σ _ _ er s' I2 hq'
  | ok fl =>
    cases fl with
    | ret u =>
      obtain ⟨v, H2, os2, bare2, un2, hok2, rv, ev, d, fs, ea, ed, hd1, q2⟩ := hq'
      subst ev
      obtain ⟨h2, g2, d2, t2, os'⟩ := s'
      exact ⟨rv, mk_end (raises_own T.ex tyC) I1 hsz kk un2 hok2 os2 bare2 ea ed hd1 q2⟩
    | next => exact False.elim hq'
    | brk => exact False.elim hq'
    | cont => exact False.elim hq'
theorem pmk_xo (T : XC X.K C) (tyC : PySem.W.typeIn X.K (.ref C) = some (.type "type")) (iC : PySem.W.findIn X.K (.ref C) "__init__" = some (some (.ref fI))) (tI : PySem.W.isFn X.K (.ref fI) = true)
    (F1 : FnOk X.prog X.w X.K X.mg X.base CX k fI fd ps sp) (hr : Room (k + 1) X.A) (hb : Binds X.K fd ps []) (hx : Passes CX X (fun _ _ _ => False)) (hg : Gl X x) (hm : X.mg x = some (.ref C)) (ha : PA X (e :: es) ta)
    (hdb : (x == ("__debug__" : Str)) = false := by decide) (he : starEach (e :: es) X.env = (false, eval e X.env) :: starEach es X.env := by rfl) (hpl : (backTo pos (starEach es X.env)).any (·.1) = false := by rfl) :
    PMk X (.Call (.Name x p) (e :: es) [] pos) (tMkO C sp [] ta) := by
  intro pins s σ H Q I h
  refine wpAny_Call_Name_kw (ld_glob I hg hm ?_ hdb)
  refine PySem.W.callWith_K (h₀ := X.base) I.ok.mod.kin T.kC (thn (ha.run pos pins s σ H _ I h) fun us s1 ⟨vs, H1, I1, r1, hz, q1⟩ => ⟨I1.kIn, ?_⟩) he hpl
  exact run_pmk T tyC iC tI F1 hr hb hx I1 r1 hz (fun a na => by have z := q1 a na; rwa [List.append_nil] at z)
theorem pmk_xo0 (T : XC X.K C) (tyC : PySem.W.typeIn X.K (.ref C) = some (.type "type")) (iC : PySem.W.findIn X.K (.ref C) "__init__" = some (some (.ref fI))) (tI : PySem.W.isFn X.K (.ref fI) = true)
    (F1 : FnOk X.prog X.w X.K X.mg X.base CX k fI fd ps sp) (hr : Room (k + 1) X.A) (hb : Binds X.K fd ps []) (hx : Passes CX X (fun _ _ _ => False)) (hg : Gl X x) (hm : X.mg x = some (.ref C))
    (hdb : (x == ("__debug__" : Str)) = false := by decide) : PMk X (.Call (.Name x p) [] [] pos) (tMkO C sp [] tNil) := by
  intro pins s σ H Q I h
  refine wpAny_Call_Name_kw (ld_glob I hg hm ?_ hdb)
  obtain ⟨_, q1⟩ := h
  exact PySem.W.callWith_K0 I.kIn T.kC (run_pmk (us := []) (vs := []) T tyC iC tI F1 hr hb hx I .nil (by decide) q1)
end
end L2
end
section
set_option maxHeartbeats 4000000
namespace Kx
open PySem PySem.Spec PyProof.Rows L2
/-! ### the errors -/
/-- what an own __init__ of n parameters leaves: fs of the values -/
def spIn (C : Addr) (n : Nat) (fs : List V → List (Str × V)) : Sp := fun vs H Q _ => ∃ (a : Addr) (ws : List V), vs = .ref a :: ws ∧ ws.length = n ∧ H a = some (exo a C none) ∧
  ∀ e H', e ≠ a → H e = none → H' a = some (exo a C (some e)) → H' e = some (exd e (fs ws)) → free3 H H' a e → Q .non H'
/-- one value -/
def fs1 (nm at_ : Str) (ws : List V) : List (Str × V) := match ws with
  | [v] => [(at_, v), ("code", .str nm)]
  | _ => []
/-- two values -/
def fs2 (nm at1 at2 : Str) (ws : List V) : List (Str × V) := match ws with
  | [v, u] => [(at2, u), (at1, v), ("code", .str nm)]
  | _ => []
/-- what stands of such a class: it may be made, its __init__ keeps its promise -/
structure ErrC (P : Program) (w : World) (K : PySem.W.Frag) (mg : Str → Option Value) (base : Heap) (nm : Str) (n : Nat) (fs : List V → List (Str × V)) (C : Addr) : Prop where
  T : XC K C
  ty : PySem.W.typeIn K (.ref C) = some (.type "type")
  m : mg nm = some (.ref C)
  i : ∃ (fI : Addr) (fd : FuncData) (ps : List Str), PySem.W.findIn K (.ref C) "__init__" = some (some (.ref fI)) ∧ PySem.W.isFn K (.ref fI) = true ∧ FnOk P w K mg base CX0 1 fI fd ps (spIn C n fs) ∧ Binds K fd ps []
/-- such an error is in the air -/
def Air (H : Hp) (C : Addr) (fs : List (Str × V)) (E : XK) : Prop := ∀ d H', Same H H' → H d = none → H' d = some (.xd fs) → E (.ref C) (some d) H'
theorem Air.same {H H' : Hp} {C : Addr} {fs : List (Str × V)} {E : XK} (h : Air H C fs E) (s : Same H H') : Air H' C fs E := fun d H2 s2 n e => h d H2 (s.trans s2) (s.free n) e
/-- one is made: from the promise of its __init__ -/
theorem air_of {H : Hp} {a C : Addr} {n : Nat} {fs : List V → List (Str × V)} {ws : List V} {E : XK} (hn : H a = none) (l : ws.length = n) (h : Air H C (fs ws) E) :
    spIn C n fs (.ref a :: (ws ++ [])) (upd H a (exo a C none)) (fun v H2 => v = .non ∧ ∃ (d : Addr) (gs : List (Str × V)), H2 a = some (exo a C (some d)) ∧ H2 d = some (exd d gs) ∧ H d = none ∧ E (.ref C) (some d) (upd (del H2 a) d (.xd gs))) (fun _ _ _ => False) := by
  refine ⟨a, ws, by rw [List.append_nil], l, upd_same, fun e H' ne he h1 h2 h3 => ⟨rfl, e, _, h1, h2, ?_, ?_⟩⟩
  · rw [upd_ne ne] at he
    exact he
  · have he' : H e = none := by rw [upd_ne ne] at he; exact he
    refine h e _ (fun b o hb => ?_) he' upd_same
    have b1 : b ≠ a := fun z => by rw [z, hn] at hb; cases hb
    have b2 : b ≠ e := fun z => by rw [z, he'] at hb; cases hb
    rw [upd_ne b2, del_ne b1, h3 b b1 b2, upd_ne b1]
    exact hb
section
variable {P : Program} {w : World} {K : PySem.W.Frag} {mg : Str → Option Value} {base : Heap} {f C : Addr} {fd : FuncData}
theorem scI2 : FnScope ["self", "at"] ["self", "at"] (defScope C_InvalidFraction_init) := ⟨rfl, rfl, rfl, by decide +kernel, rfl, by decide +kernel, by decide +kernel⟩
theorem scI3 : FnScope ["self", "value"] ["self", "value"] (defScope C_InvalidOrder_init) := ⟨rfl, rfl, rfl, by decide +kernel, rfl, by decide +kernel, by decide +kernel⟩
theorem scI5 : FnScope ["self", "one", "other"] ["self", "one", "other"] (defScope C_UnlikeOrders_init) := ⟨rfl, rfl, rfl, by decide +kernel, rfl, by decide +kernel, by decide +kernel⟩
theorem scI6 : FnScope ["self", "value"] ["self", "value"] (defScope C_InvalidPlace_init) := ⟨rfl, rfl, rfl, by decide +kernel, rfl, by decide +kernel, by decide +kernel⟩
theorem init_2 (F : Fun K "__init__" "InvalidFraction.__init__" C_InvalidFraction_init f fd) (T : XC K C) (n0 : PySem.W.findIn K (.ref C) "code" = some none) (n1 : PySem.W.findIn K (.ref C) "at" = some none) : FnOk P w K mg base CX0 1 f fd ["self", "at"] (spIn C 1 (fs1 "InvalidFraction" "at")) := by
  refine F.ok scI2 (fun vs H Q E h => ?_) (fun cdv A outer s H vs Q E hr h => ?_)
  · obtain ⟨a, ws, rfl, l, _⟩ := h
    exact congrArg Nat.succ l
  obtain ⟨a, ws, rfl, l, ha, q⟩ := h
  obtain ⟨v, rfl⟩ : ∃ v, ws = [v] := by match ws, l with | [v], _ => exact ⟨v, rfl⟩
  refine ⟨_, pss_cons (ps_xst (pv 0) pe_str) (pss_one (ps_xst (pv 0) (pv 1))), ?_⟩
  refine ⟨_, rfl, a, _, rfl, T, n0, .inl ⟨ha, fun e H1 ne he h1 h2 h3 => ?_⟩⟩
  refine ⟨_, rfl, _, rfl, a, _, rfl, T, n1, .inr ⟨e, _, h1, h2, (by show 1 ≤ 900; decide), ?_⟩⟩
  exact q e _ ne he (by rw [upd_ne (Ne.symm ne)]; exact h1) (by rw [upd_same]; rfl) (fun b b1 b2 => by rw [upd_ne b2]; exact h3 b b1 b2)
theorem init_3 (F : Fun K "__init__" "InvalidOrder.__init__" C_InvalidOrder_init f fd) (T : XC K C) (n0 : PySem.W.findIn K (.ref C) "code" = some none) (n1 : PySem.W.findIn K (.ref C) "value" = some none) : FnOk P w K mg base CX0 1 f fd ["self", "value"] (spIn C 1 (fs1 "InvalidOrder" "value")) := by
  refine F.ok scI3 (fun vs H Q E h => ?_) (fun cdv A outer s H vs Q E hr h => ?_)
  · obtain ⟨a, ws, rfl, l, _⟩ := h
    exact congrArg Nat.succ l
  obtain ⟨a, ws, rfl, l, ha, q⟩ := h
  obtain ⟨v, rfl⟩ : ∃ v, ws = [v] := by match ws, l with | [v], _ => exact ⟨v, rfl⟩
  refine ⟨_, pss_cons (ps_xst (pv 0) pe_str) (pss_one (ps_xst (pv 0) (pv 1))), ?_⟩
  refine ⟨_, rfl, a, _, rfl, T, n0, .inl ⟨ha, fun e H1 ne he h1 h2 h3 => ?_⟩⟩
  refine ⟨_, rfl, _, rfl, a, _, rfl, T, n1, .inr ⟨e, _, h1, h2, (by show 1 ≤ 900; decide), ?_⟩⟩
  exact q e _ ne he (by rw [upd_ne (Ne.symm ne)]; exact h1) (by rw [upd_same]; rfl) (fun b b1 b2 => by rw [upd_ne b2]; exact h3 b b1 b2)
theorem init_6 (F : Fun K "__init__" "InvalidPlace.__init__" C_InvalidPlace_init f fd) (T : XC K C) (n0 : PySem.W.findIn K (.ref C) "code" = some none) (n1 : PySem.W.findIn K (.ref C) "value" = some none) : FnOk P w K mg base CX0 1 f fd ["self", "value"] (spIn C 1 (fs1 "InvalidPlace" "value")) := by
  refine F.ok scI6 (fun vs H Q E h => ?_) (fun cdv A outer s H vs Q E hr h => ?_)
  · obtain ⟨a, ws, rfl, l, _⟩ := h
    exact congrArg Nat.succ l
  obtain ⟨a, ws, rfl, l, ha, q⟩ := h
  obtain ⟨v, rfl⟩ : ∃ v, ws = [v] := by match ws, l with | [v], _ => exact ⟨v, rfl⟩
  refine ⟨_, pss_cons (ps_xst (pv 0) pe_str) (pss_one (ps_xst (pv 0) (pv 1))), ?_⟩
  refine ⟨_, rfl, a, _, rfl, T, n0, .inl ⟨ha, fun e H1 ne he h1 h2 h3 => ?_⟩⟩
  refine ⟨_, rfl, _, rfl, a, _, rfl, T, n1, .inr ⟨e, _, h1, h2, (by show 1 ≤ 900; decide), ?_⟩⟩
  exact q e _ ne he (by rw [upd_ne (Ne.symm ne)]; exact h1) (by rw [upd_same]; rfl) (fun b b1 b2 => by rw [upd_ne b2]; exact h3 b b1 b2)
theorem init_5 (F : Fun K "__init__" "UnlikeOrders.__init__" C_UnlikeOrders_init f fd) (T : XC K C) (n0 : PySem.W.findIn K (.ref C) "code" = some none) (n1 : PySem.W.findIn K (.ref C) "one" = some none) (n2 : PySem.W.findIn K (.ref C) "other" = some none) : FnOk P w K mg base CX0 1 f fd ["self", "one", "other"] (spIn C 2 (fs2 "UnlikeOrders" "one" "other")) := by
  refine F.ok scI5 (fun vs H Q E h => ?_) (fun cdv A outer s H vs Q E hr h => ?_)
  · obtain ⟨a, ws, rfl, l, _⟩ := h
    exact congrArg Nat.succ l
  obtain ⟨a, ws, rfl, l, ha, q⟩ := h
  obtain ⟨v, u, rfl⟩ : ∃ v u, ws = [v, u] := by match ws, l with | [v, u], _ => exact ⟨v, u, rfl⟩
  refine ⟨_, pss_cons (ps_xst (pv 0) pe_str) (pss_cons (ps_xst (pv 0) (pv 1)) (pss_one (ps_xst (pv 0) (pv 2)))), ?_⟩
  refine ⟨_, rfl, a, _, rfl, T, n0, .inl ⟨ha, fun e H1 ne he h1 h2 h3 => ?_⟩⟩
  refine ⟨_, rfl, _, rfl, a, _, rfl, T, n1, .inr ⟨e, _, h1, h2, (by show 1 ≤ 900; decide), ?_⟩⟩
  refine ⟨_, rfl, _, rfl, a, _, rfl, T, n2, .inr ⟨e, _, (by rw [upd_ne (Ne.symm ne)]; exact h1), upd_same, (by show 2 ≤ 900; decide), ?_⟩⟩
  exact q e _ ne he (by rw [upd_ne (Ne.symm ne), upd_ne (Ne.symm ne)]; exact h1) (by rw [upd_same]; rfl) (fun b b1 b2 => by rw [upd_ne b2, upd_ne b2]; exact h3 b b1 b2)
end
end Kx
end
section
set_option maxHeartbeats 4000000
/-! enumerate over a tuple -/
namespace PySem
open Sem (wp)
open AutoSeq1 (wpAny_loadPart')
theorem meets_enumerate_newT (l : Addr) (items : Array Value) (n : Nat) (dct : Option Addr) (sl : Array (Option Value)) :
    Meets (Builtin.«enumerate.__new__» ⟨[.type "enumerate", .ref l], []⟩) (fun _ R s => s.heap.get? l = some { cls := .type "tuple", dict := dct, data := .seq items n, slots := sl } ∧
      R (.ok (.ret (.ref (s.heap.push { cls := .type "tuple_iterator", data := .fields #[.ref l, .int 0 0] }).objs.size)))
        { s with heap := (s.heap.push { cls := .type "tuple_iterator", data := .fields #[.ref l, .int 0 0] }).push { cls := .type "enumerate", data := .fields #[.none, .bool false, .ref s.heap.objs.size, rawInt 0, .none, .none] } }) :=
  .of_wp fun prog w A R s h => by
    obtain ⟨hp, g, d, tk, os⟩ := s; obtain ⟨hl, h⟩ := h
    have hsub := sub_enumerate
    have hL : Heap.IsTuple (Shared.heap ⟨hp, g, d, tk, os⟩) l items := ⟨_, hl, rfl, n, rfl⟩
    wp_walk using wpAny_loadPart' hl
    refine wpAny_stack_any fun st => wpAny_pure ?_
    split
    · rename_i c _ _ _ _ _
      cases (c == Value.type "enumerate")
      · wp_walk using wpAny_loadPart' hl, wpAny_pyIter_tuple hL
        exact ⟨_, rfl, h⟩
      · wp_walk using wpAny_loadPart' hl, wpAny_pyIter_tuple hL
        exact ⟨_, rfl, h⟩
    · wp_walk using wpAny_loadPart' hl, wpAny_pyIter_tuple hL
      exact ⟨_, rfl, h⟩
section
variable {prog : Program} {w : World} {A : Around} {E : Value → Shared → Prop} {s : Shared}
theorem call_enumerate_tup {l : Addr} {items : Array Value} {Q : Value → Shared → Prop} (hL : s.heap.IsTuple l items)
    (h : ∀ h', IsEnum h' (s.heap.objs.size + 1) s.heap.objs.size 0 .none → h'.IsTupleIter s.heap.objs.size l 0 → h'.objs.size = s.heap.objs.size + 2 →
      (∀ b o, s.heap.get? b = some o → h'.get? b = some o) → Q (.ref (s.heap.objs.size + 1)) { s with heap := h' }) :
    wpAny (model prog w) A (call (.type "enumerate") [.ref l]) Q E s := by
  obtain ⟨⟨c, dct, dt, sl⟩, hl, hc, n, hd⟩ := hL
  replace hc : c = .type "tuple" := hc
  replace hd : dt = .seq items n := hd
  subst hc hd
  refine callType_new F.called_enumerate (by decide) (F.typeCall_enumerate_1 _) (F.newCall_enumerate_1 _) (fun obj => F.args_object_init_2 obj _) F.entry_enumerate_new
    (meets_enumerate_newT l items n dct sl) ⟨hl, ?_⟩
  have hz : (s.heap.push { cls := .type "tuple_iterator", data := .fields #[.ref l, .int 0 0] }).objs.size = s.heap.objs.size + 1 := Heap.size_push ..
  show _ ∧ _
  rw [hz]
  have he : IsEnum ((s.heap.push { cls := .type "tuple_iterator", data := .fields #[.ref l, .int 0 0] }).push
      { cls := .type "enumerate", data := .fields #[.none, .bool false, .ref s.heap.objs.size, rawInt 0, .none, .none] }) (s.heap.objs.size + 1) s.heap.objs.size 0 .none := by
    have := Heap.get?_push_size (s.heap.push { cls := .type "tuple_iterator", data := .fields #[.ref l, .int 0 0] })
      (o := { cls := .type "enumerate", data := .fields #[.none, .bool false, .ref s.heap.objs.size, rawInt 0, .none, .none] }) rfl
    rw [hz] at this; exact this
  refine ⟨⟨_, he, rfl⟩, h _ he ⟨_, Heap.get?_push_of_some _ (Heap.get?_push_size _ rfl), rfl, rfl⟩ (by rw [Heap.size_push, hz]) fun b o x => Heap.get?_push_of_some _ (Heap.get?_push_of_some _ x)⟩
theorem wpAny_pyNext_enum_endT {e it l : Addr} {i : Nat} {items : Array Value} {old : Value} {Q : Option Value → Shared → Prop} (hh : A.handled = none)
    (he : IsEnum s.heap e it i old) (hit : s.heap.IsTupleIter it l i) (hl : s.heap.IsTuple l items) (hx : items[i]? = none)
    (hQ : ∀ h', Heap.ExtBut it s.heap h' → Q none { s with heap := h' }) : wpAny (model prog w) A (pyNext (.ref e)) Q E s := by
  have hT : s.TypeIs (.ref e) "enumerate" := ⟨_, he, rfl⟩
  unfold pyNext
  refine wpAny_bind (wpAny_attempt (wpAny_callSpecial?_slot (name := Str.ofString "__next__") hT F.slot_enumerate_next
    (wpAny_call_entry F.slot_enumerate_next hT F.entry_enumerate_next ?_ (F.args_enumerate_next_1 _))))
  show wpAny _ _ (field (.ref e) 2 >>= _) _ _ _
  refine wpAny_bind (wpAny_field he rfl (x := .ref it) rfl ?_)
  refine wpAny_bind (wpAny_nextOf_tuple_end hh hit hl hx fun h' x he' hx' => ?_)
  obtain ⟨o, ho, hc⟩ := hx'
  refine wpAny_bind (wpAny_isInstance (T := "StopIteration") (b := true) ⟨o, ho, hc⟩ isSubtype_stop ?_)
  exact wpAny_pure (hQ _ he')
end
end PySem
namespace L2
open PySem PySem.Spec PyProof.Rows
/-- the tuple at a as it stands at each turn, each item in a new pair -/
def IteT (K : PySem.W.Frag) (a : Addr) : It :=
  ⟨fun i H => ∃ (xs : List V) (x : V), SqT K H a xs ∧ xs[i]? = some x, fun i H v H' => ∃ T x, v = .ref T ∧ H T = none ∧ H' = upd H T (.tup [.int (i : Nat), x]) ∧ ∀ xs, SqT K H a xs → xs[i]? = some x, fun i H => ∃ xs : List V, SqT K H a xs ∧ xs.length ≤ i⟩
theorem turn_enumT {P : Program} {w : World} {K : PySem.W.Frag} {elts : List Expr} {kk : Nat} {tpos : Pos} (a e it : Addr) (hai : a ≠ it) :
    Turn P w K (.Tuple elts kk tpos) (IteT K a) [e, it] e (fun i h => (∃ old, IsEnum h e it ((i : Nat) : Int) old) ∧ h.IsTupleIter it a i ∧ e ≠ it ∧ e ≠ a) where
  mem := by simp
  obj := fun i h st b hb => by
    obtain ⟨⟨old, he⟩, ⟨o, ho, hc, hd⟩, _⟩ := st
    have e' : b = e ∨ b = it := by simpa using hb
    rcases e' with z | z
    · rw [z]; exact ⟨_, he, fun v q => nomatch q⟩
    · rw [z]; exact ⟨o, ho, fun v q => by rw [hd] at q; cases q⟩
  keep := fun i h h' st k => let ⟨⟨old, he⟩, hi, hne⟩ := st; ⟨⟨old, k e (by simp) _ he⟩, hi.at fun o q => k it (by simp) o q, hne⟩
  item := by
    intro X hP hw hK hc i pins s σ H E I hf st hg
    subst hP hw hK
    obtain ⟨⟨old, he⟩, hit, hne, hna⟩ := st
    obtain ⟨xs, x, hq, hx⟩ := hg
    obtain ⟨its, rv, p, hz⟩ := I.tuple hq
    obtain ⟨u, hu, ru⟩ := rv.get hx
    have hel : e < s.heap.objs.size := Heap.lt_size he
    have hil : it < s.heap.objs.size := by obtain ⟨_, q, _⟩ := hit; exact Heap.lt_size q
    have hsz0 : i < its.toArray.size := by
      have := (List.getElem?_eq_some_iff.mp hu).1
      simpa using this
    refine wpAny_pyNext_enum_itemD (Draws.tuple (prog := X.prog) (w := X.w) (A := X.A.in1) (I.ok.hd hc) it a hai its.toArray) he ⟨hit, p⟩ hsz0 hne (by simp [hne, hna]) fun x' h' tk hx' ho hit' hT hsz hk => ?_
    have ex : x' = u := by
      have h2 : its.toArray[i]? = some u := by simpa using hu
      rw [h2] at hx'
      exact (Option.some.inj hx').symm
    subst ex
    refine ⟨_, rfl, wpAny_letOwnedTupleGo_enum (s := { s with heap := h', toks := tk + 1 }) ho fun h'' he' sb => ?_⟩
    have hT2 : h''.get? s.heap.objs.size = some { cls := .type "tuple", data := .seq #[.int i tk, x'] } := (sb.2 _ (Nat.ne_of_gt hel)).trans hT
    have new : ObjOk X.prog X.w (upd H s.heap.objs.size (.tup [.int (i : Nat), x])) h'' s.heap.objs.size (.tup [.int (i : Nat), x]) :=
      ⟨by show 2 ≤ sizeLine; decide, [.int i tk, x'], .cons ⟨_, rfl⟩ (.cons ru .nil), ⟨_, hT2, rfl, _, rfl⟩⟩
    have I1 : Inv X pins σ (upd H s.heap.objs.size (.tup [.int (i : Nat), x])) { s with heap := h'', toks := tk + 1 } :=
      I.turnedNew (ch := [e, it]) (fun b ob hb q => (sb.2 b (fun z => hb (by simp [z]))).trans (hk b ob (fun z => hb (by simp [z])) (fun z => hb (by simp [z])) q)) hf (Nat.le_refl _) new
    refine ⟨.ref s.heap.objs.size, _, I1, rfl, ⟨_, x, rfl, I.hok.fresh (Nat.le_refl _), rfl, fun ys hy => by rw [I.tuple_inj hy hq]; exact hx⟩, ⟨⟨x', ?_⟩, hit'.1.at fun o q => (sb.2 it (Ne.symm hne)).trans q, hne, hna⟩, fun b hb => ?_⟩
    · have e1 : ((i + 1 : Nat) : Int) = (i : Int) + 1 := by omega
      rw [e1]; exact he'
    · have hb' : b < s.heap.objs.size := by
        have e' : b = e ∨ b = it := by simpa using hb
        rcases e' with z | z
        · rw [z]; exact hel
        · rw [z]; exact hil
      rw [upd_ne (Nat.ne_of_lt hb')]
      exact (hf b hb).1
  done := by
    intro X hP hw hK hc i pins s σ H E I hf st hg
    subst hP hw hK
    obtain ⟨⟨old, he⟩, hit, hne, hna⟩ := st
    obtain ⟨xs, hq, hx⟩ := hg
    obtain ⟨its, rv, p, hz⟩ := I.tuple hq
    obtain ⟨f0, f1, f2, f3, f4, f5⟩ := hf it (by simp)
    have hl := rv.length
    have D := Draws.tuple (prog := X.prog) (w := X.w) (A := X.A.in1) (I.ok.hd hc) it a hai its.toArray
    refine wpAny_pyNext_enum_endT (I.ok.hd hc) he hit p (by simp; omega) fun h' eb => ⟨rfl, I.turned (t' := s.toks) (fun b o hb q => eb b o hb q) f0 f1 f3 f4 f5⟩
  self := fun A i s Q E st h => let ⟨⟨_, he⟩, _⟩ := st; wpAny_pyIter_enum he h
/-- a list or a tuple -/
def iEnumA (K : PySem.W.Frag) (ta : TA) : TI := fun σ H R => ta σ H fun vs H1 => ∃ a xs, vs = [.ref a] ∧ ((SqL K H1 a xs ∧ R (Ite K a) H1) ∨ (SqT K H1 a xs ∧ R (IteT K a) H1))
theorem pi_enumA {X : Cx} {e : Expr} {ta : TA} {p pos tpos : Pos} {elts : List Expr} {kk : Nat} (hg : Gl X "enumerate") (hm : X.mg "enumerate" = none) (ha : PA X [e] ta) (hs : starEach [e] X.env = [(false, eval e X.env)] := by rfl) :
    PI X (.Tuple elts kk tpos) (.Call (.Name "enumerate" p) [e] [] pos) (iEnumA X.K ta) := by
  refine ⟨fun pins s σ H R I h => ?_⟩
  refine Call_ (ld_blt I hg hm boot_enumerate (PyProof.Rows.callWith_type1 (thn (ha.run pos pins s σ H _ I h) fun us s1 ⟨vs, H1, I1, r1, q1⟩ => ?_) hs rfl))
  obtain ⟨a, xs, ex, hq⟩ := q1
  subst ex
  cases r1 with
  | cons r rr =>
    cases rr
    cases r
    rcases hq with ⟨hq, q⟩ | ⟨hq, q⟩
    · obtain ⟨its, rv, p', hz⟩ := I1.list hq
      refine call_enumerate_list p'.isList fun h' he hit hsz hk => wpAny_pyIter_enum he ?_
      have I2 : Inv X pins σ H1 { s1 with heap := h' } := I1.kept (t' := s1.toks) hk
      refine ⟨s1.heap.objs.size + 1, [s1.heap.objs.size + 1, s1.heap.objs.size], _, _, H1, rfl, I2, turn_enum a (s1.heap.objs.size + 1) s1.heap.objs.size, ⟨⟨.none, he⟩, hit, Nat.succ_ne_self _⟩, fun b hb => ?_, q⟩
      have e' : b = s1.heap.objs.size + 1 ∨ b = s1.heap.objs.size := by simpa using hb
      have hle : s1.heap.objs.size ≤ b := by
        rcases e' with z | z
        · rw [z]; exact Nat.le_add_right _ _
        · rw [z]; exact Nat.le_refl _
      exact I1.fpOk hle (I1.hok.fresh hle)
    · obtain ⟨its, rv, p', hz⟩ := I1.tuple hq
      have hal : a < s1.heap.objs.size := by
        obtain ⟨o, ho, _⟩ := p'
        exact Heap.lt_size ho
      refine call_enumerate_tup p' fun h' he hit hsz hk => wpAny_pyIter_enum he ?_
      have I2 : Inv X pins σ H1 { s1 with heap := h' } := I1.kept (t' := s1.toks) hk
      refine ⟨s1.heap.objs.size + 1, [s1.heap.objs.size + 1, s1.heap.objs.size], _, _, H1, rfl, I2, turn_enumT a (s1.heap.objs.size + 1) s1.heap.objs.size (Nat.ne_of_lt hal), ⟨⟨.none, he⟩, hit, Nat.succ_ne_self _, Nat.ne_of_gt (Nat.lt_succ_of_lt hal)⟩, fun b hb => ?_, q⟩
      have e' : b = s1.heap.objs.size + 1 ∨ b = s1.heap.objs.size := by simpa using hb
      have hle : s1.heap.objs.size ≤ b := by
        rcases e' with z | z
        · rw [z]; exact Nat.le_add_right _ _
        · rw [z]; exact Nat.le_refl _
      exact I1.fpOk hle (I1.hok.fresh hle)
theorem walk_enumT {K : PySem.W.Frag} {a : Addr} {xs : List V} : Walk (IteT K a) xs.length (fun H => SqT K H a xs) (YPair (fun i => some (.int (i : Nat))) (fun i => xs[i]?)) := by
  refine ⟨fun i _ hi q => ⟨xs, xs[i], q, by simp [hi]⟩, fun _ q => ⟨xs, q, Nat.le_refl _⟩, fun i H v H' _ q y => ?_⟩
  obtain ⟨T, x, h1, h2, h3, h4⟩ := y
  exact ⟨T, .int (i : Nat), x, h1, h2, h3, rfl, h4 xs q⟩
end L2
end
section
set_option maxHeartbeats 4000000
namespace Kx
open PySem PySem.Spec PyProof.Rows L2 RZ
theorem rel_ty (n : String) : RelV (.ty n) (.type n) := rfl
theorem kb_l : kitB "list" "list" = some true ∧ kitB "list" "tuple" = some false ∧ kitB "tuple" "list" = some false ∧ kitB "tuple" "tuple" = some true := by decide +kernel
theorem kit2 {K : PySem.W.Frag} {s : String} {a b r : Bool} (h1 : kitB s "list" = some a) (h2 : kitB s "tuple" = some b) (hr : r = (a || b)) : PySem.W.kitAny K (.type s) [.type "list", .type "tuple"] = some r := by
  subst hr
  refine kitAny_cons (kit_ty h1) (fun ha => ?_) (fun ha => by rw [ha]; rfl)
  subst ha
  refine kitAny_cons (kit_ty h2) (fun hb => by rw [hb]; exact kitAny_nil) (fun hb => by rw [hb]; rfl)
theorem isi_at {X : Cx} (K : PySem.W.Frag) (h : X.K = K) : CallR X (.builtin "isinstance") (rIsi K) := by
  subst h
  exact call_isi
def WhV (K : PySem.W.Frag) (H : Hp) (v : V) (b : Bool) : Prop := ∀ H', Same H H' → ∃ (T : Value) (x y : Bool), TyX K H' v T ∧ PySem.W.kitOne K T (.type "int") = some x ∧ PySem.W.kitOne K T (.type "bool") = some y ∧ b = (x && !y)
theorem WhV.same {K : PySem.W.Frag} {H H' : Hp} {v : V} {b : Bool} (h : WhV K H v b) (s : Same H H') : WhV K H' v b := fun H2 s2 => h H2 (s.trans s2)
def spWhole (K : PySem.W.Frag) : Sp := fun vs H Q _ => ∃ (v : V) (b : Bool), vs = [v] ∧ WhV K H v b ∧ Q (.bl b) H
theorem kb_int : kitB "int" "int" = some true ∧ kitB "int" "bool" = some false := by decide +kernel
theorem wh_int {K : PySem.W.Frag} {H : Hp} (i : Int) : WhV K H (.int i) true := fun _ _ => ⟨.type "int", true, false, .base (.int i), kit_ty kb_int.1, kit_ty kb_int.2, rfl⟩
/-- is v a fraction: r; v may stand in the module, too -/
def IsG (K : PySem.W.Frag) (H : Hp) (v : V) (r : Bool) : Prop :=
  (∃ T, TyX K H v T ∧ PySem.W.kitOne K T (.type "tuple") = some false ∧ r = false) ∨
  (∃ a xs, v = .ref a ∧ SqT K H a xs ∧ TyX K H (.ref a) (.type "tuple") ∧ xs.length ≠ 2 ∧ r = false) ∨
  (∃ a x y b1 b2, v = .ref a ∧ SqT K H a [x, y] ∧ TyX K H (.ref a) (.type "tuple") ∧ WhV K H x b1 ∧ WhV K H y b2 ∧ (((b1 && b2) = false ∧ r = false) ∨ ∃ u l : Int, b1 = true ∧ b2 = true ∧ x = .int u ∧ y = .int l ∧ r = (decide (1 ≤ l) && decide (Nat.gcd u.natAbs l.natAbs = 1))))
def spIsG (K : PySem.W.Frag) : Sp := fun vs H Q _ => ∃ (v : V) (r : Bool), vs = [v] ∧ IsG K H v r ∧ Q (.bl r) H
theorem Nq.isG {K : PySem.W.Frag} {H : Hp} {v : V} {q : Rat} (h : Nq K H v q) : IsG K H v true := by
  obtain ⟨a, rfl, s, t⟩ := h.sq
  refine .inr (.inr ⟨a, _, _, true, true, rfl, s, t, wh_int _, wh_int _, .inr ⟨_, _, rfl, rfl, rfl, rfl, ?_⟩⟩)
  have h1 : (1 : Int) ≤ ((q.den : Nat) : Int) := by have := q.den_nz; omega
  have h2 : Nat.gcd q.num.natAbs ((q.den : Nat) : Int).natAbs = 1 := q.reduced
  rw [decide_eq_true h1, decide_eq_true h2]
  rfl
/-- is v an int from lo to hi: r -/
def InR (K : PySem.W.Frag) (H : Hp) (v : V) (lo hi : Int) (r : Bool) : Prop := ∃ b, WhV K H v b ∧ ((b = false ∧ r = false) ∨ ∃ i : Int, b = true ∧ v = .int i ∧ r = (decide (lo ≤ i) && decide (i ≤ hi)))
theorem InR.same {K : PySem.W.Frag} {H H' : Hp} {v : V} {lo hi : Int} {r : Bool} (h : InR K H v lo hi r) (s : Same H H') : InR K H' v lo hi r := by
  obtain ⟨b, h1, h2⟩ := h
  exact ⟨b, h1.same s, h2⟩
theorem InR.yes {K : PySem.W.Frag} {H : Hp} {lo hi i : Int} (h1 : lo ≤ i) (h2 : i ≤ hi) : InR K H (.int i) lo hi true := ⟨true, wh_int i, .inr ⟨i, rfl, rfl, by rw [decide_eq_true h1, decide_eq_true h2]; rfl⟩⟩
theorem InR.no {K : PySem.W.Frag} {H : Hp} {lo hi i : Int} (h : i < lo ∨ hi < i) : InR K H (.int i) lo hi false := ⟨true, wh_int i, .inr ⟨i, rfl, rfl, by
  symm
  rw [Bool.and_eq_false_iff, decide_eq_false_iff_not, decide_eq_false_iff_not]
  omega⟩⟩
theorem InR.int {K : PySem.W.Frag} {H : Hp} {lo hi i : Int} : InR K H (.int i) lo hi (decide (lo ≤ i) && decide (i ≤ hi)) := ⟨true, wh_int i, .inr ⟨i, rfl, rfl, rfl⟩⟩
def spBtw (K : PySem.W.Frag) : Sp := fun vs H Q _ => ∃ (v : V) (lo hi : Int) (r : Bool), vs = [v, .int lo, .int hi] ∧ InR K H v lo hi r ∧ Q (.bl r) H
abbrev nIF : List Str := ["value", "upper", "lower"]
/-! ### checks, with what they raise -/
def spCo (K : PySem.W.Frag) (CO : Addr) : Sp := fun vs H Q E => ∃ (v : V) (r : Bool), vs = [v] ∧ InR K H v 2 24 r ∧ (r = true → Q .non H) ∧ (r = false → Air H CO (fs1 "InvalidOrder" "value" [v]) E)
def spCk (K : PySem.W.Frag) (CN : Addr) : Sp := fun vs H Q E => ∃ (v : V) (r : Bool), vs = [v] ∧ IsG K H v r ∧ (r = true → Q .non H) ∧ (r = false → Air H CN (fs1 "InvalidNumber" "value" [v]) E)
def spCp (K : PySem.W.Frag) (CP : Addr) : Sp := fun vs H Q E => ∃ (v : V) (lo hi : Int) (r : Bool), vs = [v, .int lo, .int hi] ∧ InR K H v lo hi r ∧ (r = true → Q .non H) ∧ (r = false → Air H CP (fs1 "InvalidPlace" "value" [v]) E)
def spCc (K : PySem.W.Frag) (CO CL : Addr) : Sp := fun vs H Q E => ∃ (n : Int) (v : V) (r : Bool), vs = [.int n, v] ∧ InR K H v 2 24 r ∧ (r = false → Air H CO (fs1 "InvalidOrder" "value" [v]) E) ∧
  (r = true → ∀ i : Int, v = .int i → (i ≤ n → Q .non H) ∧ (n < i → Air H CL (fs2 "OrderTooLow" "have" "wanted" [.int n, .int i]) E))
/-- x has the attribute f with the value v -/
def At (K : PySem.W.Frag) (H : Hp) (x : V) (f : Str) (v : V) : Prop := ∃ (a C dx : Addr) (fs : List (Str × V)), x = .ref a ∧ H a = some (.ins C dx fs) ∧ Cls K C ∧ NoAttr K C f ∧ fs.lookup f = some v
def spCor (K : PySem.W.Frag) (CU : Addr) : Sp := fun vs H Q E => ∃ (x y : V) (n m : Int), vs = [x, y] ∧ At K H x "order" (.int n) ∧ At K H y "order" (.int m) ∧ (n = m → Q .non H) ∧ (n ≠ m → Air H CU (fs2 "UnlikeOrders" "one" "other" [.int n, .int m]) E)
section
variable {P : Program} {w : World} {K : PySem.W.Frag} {mg : Str → Option Value} {base : Heap} {f fW CO CN CP CL CU : Addr} {fd fdW : FuncData}
theorem scWh : FnScope ["value"] ["value"] (defScope F_is_whole) := ⟨rfl, rfl, rfl, by decide +kernel, rfl, by decide +kernel, by decide +kernel⟩
theorem ok_whole (F : Fun K "is_whole" "is_whole" F_is_whole f fd) (mI : mg "isinstance" = none) (mi : mg "int" = none) (mb : mg "bool" = none) : FnOk P w K mg base CX0 1 f fd ["value"] (spWhole K) := by
  refine F.ok scWh (fun vs H Q E h => ?_) (fun cdv A outer s H vs Q E hr h => ?_)
  · obtain ⟨v, b, rfl, _⟩ := h
    rfl
  obtain ⟨v, b, rfl, hw, q⟩ := h
  obtain ⟨T, x, y, ty, k1, k2, rfl⟩ := hw H (Same.refl H)
  refine ⟨_, pss_one (ps_ret (pe_and (pe_callB call_isi rfl mI (by decide +kernel) (pa_cons (pv 0) (pa_cons (pe_bltn rfl mi boot_int (rel_ty _)) pa_nil))) (pe_one (pe_not (pe_callB call_isi rfl mI (by decide +kernel) (pa_cons (pv 0) (pa_cons (pe_bltn rfl mb boot_bool (rel_ty _)) pa_nil))))))), ?_⟩
  refine ⟨_, rfl, v, _, T, _, x, rfl, .ty _, ty, k1, _, rfl, ?_⟩
  cases x with
  | false => exact iteF q
  | true => exact iteT ⟨_, rfl, v, _, T, _, y, rfl, .ty _, ty, k2, _, rfl, q⟩
theorem scBtw : FnScope ["value", "low", "high"] ["value", "low", "high"] (defScope F_is_between) := ⟨rfl, rfl, rfl, by decide +kernel, rfl, by decide +kernel, by decide +kernel⟩
theorem ok_btw (F : Fun K "is_between" "is_between" F_is_between f fd) (UW : Use P w K mg base CX0 1 "is_whole" ["value"] (spWhole K) []) : FnOk P w K mg base CX0 2 f fd ["value", "low", "high"] (spBtw K) := by
  refine F.ok scBtw (fun vs H Q E h => ?_) (fun cdv A outer s H vs Q E hr h => ?_)
  · obtain ⟨v, lo, hi, b, rfl, _⟩ := h
    rfl
  obtain ⟨v, lo, hi, r, rfl, ⟨b, hw, hh⟩, q⟩ := h
  refine ⟨_, pss_one (ps_ret (pe_and (pe_use UW hr rfl pass0 (pa_cons (pv 0) pa_nil)) (pe_one (pe_chain op_le op_le (pv 1) (pv 0) (pv 2))))), ?_⟩
  refine ⟨_, rfl, v, b, rfl, hw, _, rfl, ?_⟩
  rcases hh with ⟨rfl, rfl⟩ | ⟨i, rfl, rfl, rfl⟩
  · exact iteF q
  · refine iteT ⟨_, rfl, _, rfl, lo, i, rfl, rfl, _, rfl, ?_⟩
    by_cases c : lo ≤ i
    · rw [decide_eq_true c] at q ⊢
      exact iteT ⟨_, rfl, i, hi, rfl, rfl, by rw [Bool.true_and] at q; exact q⟩
    · rw [decide_eq_false c] at q ⊢
      exact iteF q
theorem scIF : FnScope nIF ["value"] (defScope F_is_fraction) := ⟨rfl, rfl, rfl, by decide +kernel, rfl, by decide +kernel, by decide +kernel⟩
theorem ok_isg (F : Fun K "is_fraction" "is_fraction" F_is_fraction f fd) (mI : mg "isinstance" = none) (mt : mg "tuple" = none) (mn : mg "len" = none) (mG : mg "gcd" = some (.builtin "math.gcd"))
    (UW : Use P w K mg base CX0 1 "is_whole" ["value"] (spWhole K) []) : FnOk P w K mg base CX0 2 f fd ["value"] (spIsG K) := by
  refine F.ok scIF (fun vs H Q E h => ?_) (fun cdv A outer s H vs Q E hr h => ?_)
  · obtain ⟨v, r, rfl, _⟩ := h
    rfl
  obtain ⟨v, r, rfl, hf, q⟩ := h
  refine ⟨_, pss_cons (ps_if (PW.pt (pw_or (pt_not (pt_val (pe_callB call_isi rfl mI (by decide +kernel) (pa_cons (pv 0) (pa_cons (pe_bltn rfl mt boot_tuple (rel_ty _)) pa_nil))))) (pw_or1 (pt_cmpR op_ne (pe_callB call_len_seq rfl mn PySem.boot_len (pa_cons (pv 0) pa_nil)) pe_int (nomark _))))) (pss_one (ps_ret pe_bl)) pss_nil)
    (pss_cons (ps_asg (pv 0) (pg_tup rfl (pgs_cons (pg_name (i := 1) scIF.nd rfl (Or.inl rfl)) (pgs_cons (pg_name (i := 2) scIF.nd rfl (Or.inl rfl)) pgs_nil))))
    (pss_cons (ps_if (PW.pt (pw_or (pt_not (pt_val (pe_use UW hr rfl pass0 (pa_cons (pv 1) pa_nil)))) (pw_or1 (pt_not (pt_val (pe_use UW hr rfl pass0 (pa_cons (pv 2) pa_nil))))))) (pss_one (ps_ret pe_bl)) pss_nil)
    (pss_one (ps_ret (pe_and (pe_cmpR op_ge (pv 2) pe_int (nomark _)) (pe_one (pe_cmpR op_eq (pe_callBfun cr_gcd rfl mG (pa_cons (pv 1) (pa_cons (pv 2) pa_nil))) pe_int (nomark _)))))))), ?_⟩
  have tk : PySem.W.kitOne K (.type "tuple") (.type "tuple") = some true := kit_ty kb_l.2.2.2
  rcases hf with ⟨T, ty, k, rfl⟩ | ⟨a, xs, rfl, ha, ht, hl, rfl⟩ | ⟨a, x, y, b1, b2, rfl, ha, ht, hx, hy, hh⟩
  · exact ⟨_, rfl, v, _, T, _, false, rfl, .ty _, ty, k, _, rfl, iteT q⟩
  · refine ⟨_, rfl, _, _, _, _, true, rfl, .ty _, ht, tk, _, rfl, iteF ?_⟩
    refine ⟨_, rfl, a, xs, rfl, .inr (ha), rfl, _, rfl, ?_⟩
    rw [decide_eq_false (fun e => hl (by have := V.int.inj e; omega))]
    exact iteT q
  · refine ⟨_, rfl, _, _, _, _, true, rfl, .ty _, ht, tk, _, rfl, iteF ?_⟩
    refine ⟨_, rfl, a, _, rfl, .inr (ha), rfl, _, rfl, iteF ?_⟩
    refine ⟨_, rfl, a, _, rfl, ha, rfl, _, _, rfl, _, _, rfl, rfl, ?_⟩
    rcases hh with ⟨hb, rfl⟩ | ⟨u, l, rfl, rfl, rfl, rfl, rfl⟩
    · cases b1 with
      | false => exact ⟨_, rfl, x, false, rfl, hx, _, rfl, iteT q⟩
      | true =>
        obtain rfl : b2 = false := hb
        exact ⟨_, rfl, x, true, rfl, hx, _, rfl, iteF ⟨_, rfl, y, false, rfl, hy, _, rfl, iteT q⟩⟩
    · refine ⟨_, rfl, _, true, rfl, wh_int u, _, rfl, iteF ⟨_, rfl, _, true, rfl, wh_int l, _, rfl, iteF ?_⟩⟩
      refine ⟨_, rfl, l, 1, rfl, rfl, _, rfl, ?_⟩
      by_cases c : (1 : Int) ≤ l
      · rw [decide_eq_true c] at q ⊢
        refine iteT ⟨_, rfl, _, rfl, u, l, rfl, rfl, ?_⟩
        have e : (decide (V.int ((Nat.gcd u.natAbs l.natAbs : Nat) : Int) = V.int 1)) = (true && decide (Nat.gcd u.natAbs l.natAbs = 1)) := by
          rw [Bool.true_and]
          exact decide_eq_decide.mpr ⟨fun h => by have := V.int.inj h; omega, fun h => by rw [h]; rfl⟩
        rw [← e] at q
        exact q
      · rw [decide_eq_false c] at q ⊢
        exact iteF q
theorem scCo : FnScope ["order"] ["order"] (defScope F_check_order) := ⟨rfl, rfl, rfl, by decide +kernel, rfl, by decide +kernel, by decide +kernel⟩
theorem ok_corder (G : Fun K "check_order" "check_order" F_check_order f fd) (UB : Use P w K mg base CX0 2 "is_between" ["value", "low", "high"] (spBtw K) [])
    (mL : ∃ u, mg "LOWEST_ORDER" = some u ∧ RelV (.int 2) u) (mH : ∃ u, mg "HIGHEST_ORDER" = some u ∧ RelV (.int 24) u) (Z : ErrC P w K mg base "InvalidOrder" 1 (fs1 "InvalidOrder" "value") CO) : FnOk P w K mg base (L2.CX P w) 3 f fd ["order"] (spCo K CO) := by
  refine G.okX scCo (fun vs H Q E h => ?_) (fun cdv A outer s H vs Q E hr h => ?_)
  · obtain ⟨v, r, rfl, _⟩ := h
    rfl
  obtain ⟨v, r, rfl, hin, h1, h2⟩ := h
  obtain ⟨fI, fdI, ps, i1, i2, i3, i4⟩ := Z.i
  refine ⟨_, pss_one (ps_if (pt_not (pt_val (pe_use UB hr rfl pass0 (pa_cons (pv 0) (pa_cons (C8.pe_gc rfl mL) (pa_cons (C8.pe_gc rfl mH) pa_nil)))))) (pss_one (ps_raise rfl (takes_of rfl rfl rfl rfl) (pmk_xo Z.T Z.ty i1 i2 i3 hr i4 pass0 rfl Z.m (pa_cons (pv 0) pa_nil)))) pss_nil), ?_⟩
  refine ⟨_, rfl, v, 2, 24, r, rfl, hin, _, rfl, ?_⟩
  cases r with
  | true => exact iteF (h1 rfl)
  | false => exact iteT ⟨_, rfl, (by show 1 ≤ 1000; decide), fun a na => air_of (C := CO) (n := 1) (ws := [v]) na rfl (h2 rfl)⟩
theorem scCp : FnScope ["place", "first", "last"] ["place", "first", "last"] (defScope F_check_place) := ⟨rfl, rfl, rfl, by decide +kernel, rfl, by decide +kernel, by decide +kernel⟩
theorem ok_cplace (G : Fun K "check_place" "check_place" F_check_place f fd) (UB : Use P w K mg base CX0 2 "is_between" ["value", "low", "high"] (spBtw K) []) (Z : ErrC P w K mg base "InvalidPlace" 1 (fs1 "InvalidPlace" "value") CP) : FnOk P w K mg base (L2.CX P w) 3 f fd ["place", "first", "last"] (spCp K CP) := by
  refine G.okX scCp (fun vs H Q E h => ?_) (fun cdv A outer s H vs Q E hr h => ?_)
  · obtain ⟨v, lo, hi, r, rfl, _⟩ := h
    rfl
  obtain ⟨v, lo, hi, r, rfl, hin, h1, h2⟩ := h
  obtain ⟨fI, fdI, ps, i1, i2, i3, i4⟩ := Z.i
  refine ⟨_, pss_one (ps_if (pt_not (pt_val (pe_use UB hr rfl pass0 (pa_cons (pv 0) (pa_cons (pv 1) (pa_cons (pv 2) pa_nil)))))) (pss_one (ps_raise rfl (takes_of rfl rfl rfl rfl) (pmk_xo Z.T Z.ty i1 i2 i3 hr i4 pass0 rfl Z.m (pa_cons (pv 0) pa_nil)))) pss_nil), ?_⟩
  refine ⟨_, rfl, _, rfl, _, rfl, v, lo, hi, r, rfl, hin, _, rfl, ?_⟩
  cases r with
  | true => exact iteF (h1 rfl)
  | false => exact iteT ⟨_, rfl, (by show 1 ≤ 1000; decide), fun a na => air_of (C := CP) (n := 1) (ws := [v]) na rfl (h2 rfl)⟩
theorem scCor : FnScope ["one", "other"] ["one", "other"] (defScope F_check_orders) := ⟨rfl, rfl, rfl, by decide +kernel, rfl, by decide +kernel, by decide +kernel⟩
theorem ok_corders (G : Fun K "check_orders" "check_orders" F_check_orders f fd) (Z : ErrC P w K mg base "UnlikeOrders" 2 (fs2 "UnlikeOrders" "one" "other") CU) : FnOk P w K mg base (L2.CX P w) 3 f fd ["one", "other"] (spCor K CU) := by
  refine G.okX scCor (fun vs H Q E h => ?_) (fun cdv A outer s H vs Q E hr h => ?_)
  · obtain ⟨x, y, n, m, rfl, _⟩ := h
    rfl
  obtain ⟨x, y, n, m, rfl, ⟨xa, C, dx, fs, rfl, hx, cx, nx, lx⟩, ⟨ya, D, dy, gs, rfl, hy, cy, ny, ly⟩, h1, h2⟩ := h
  obtain ⟨fI, fdI, ps, i1, i2, i3, i4⟩ := Z.i
  refine ⟨_, pss_one (ps_if (pt_cmpR op_ne (pe_fld (pv 0) rfl) (pe_fld (pv 1) rfl) (nomark _)) (pss_one (ps_raise rfl (takes_of rfl rfl rfl rfl) (pmk_xo Z.T Z.ty i1 i2 i3 hr i4 pass0 rfl Z.m (pa_cons (pe_fld (pv 0) rfl) (pa_cons (pe_fld (pv 1) rfl) pa_nil))))) pss_nil), ?_⟩
  refine ⟨_, rfl, xa, C, dx, _, _, rfl, hx, cx, nx, lx, _, rfl, ya, D, dy, _, _, rfl, hy, cy, ny, ly, rfl, _, rfl, ?_⟩
  by_cases c : n = m
  · subst c
    rw [decide_eq_true rfl]
    exact iteF (h1 rfl)
  · rw [decide_eq_false (fun e => c (V.int.inj e))]
    exact iteT ⟨_, rfl, xa, C, dx, _, _, rfl, hx, cx, nx, lx, _, rfl, ya, D, dy, _, _, rfl, hy, cy, ny, ly, (by show 2 ≤ 1000; decide), fun a na => air_of (C := CU) (n := 2) (ws := [.int n, .int m]) na rfl (h2 c)⟩
end
end Kx
end
section
set_option maxHeartbeats 4000000
namespace Kx
open PySem PySem.Spec PyProof.Rows L2 RZ
def optV : Option Nat → V
  | none => .non
  | some k => .int (k : Nat)
/-- the first false, counted from i on -/
def badAt : List Bool → Nat → Option Nat
  | [], _ => none
  | r :: rs, i => if r = true then badAt rs (i + 1) else some i
theorem badAt_hit : ∀ (rs : List Bool) (k i : Nat), (∀ r ∈ rs.take i, r = true) → rs[i]? = some false → badAt rs k = some (k + i)
  | [], _, _, _, h => by simp at h
  | r :: rs, k, 0, _, h => by
    have e : r = false := Option.some.inj (show some r = some false from h)
    subst e
    rfl
  | r :: rs, k, i + 1, h, e => by
    have hr : r = true := h r (by simp)
    subst hr
    show badAt rs (k + 1) = _
    rw [badAt_hit rs (k + 1) i (fun x hx => h x (by simp [hx])) (by simpa using e)]
    congr 1
    omega
theorem badAt_none : ∀ (rs : List Bool) (k : Nat), (∀ r ∈ rs, r = true) → badAt rs k = none
  | [], _, _ => rfl
  | r :: rs, k, h => by
    have hr : r = true := h r (by simp)
    subst hr
    exact badAt_none rs (k + 1) fun x hx => h x (by simp [hx])
/-- is v a fraction: r, whatever is new -/
def IsGs (K : PySem.W.Frag) (H : Hp) (v : V) (r : Bool) : Prop := ∀ H', Same H H' → IsG K H' v r
theorem IsGs.same {K : PySem.W.Frag} {H H' : Hp} {v : V} {r : Bool} (h : IsGs K H v r) (s : Same H H') : IsGs K H' v r := fun H2 s2 => h H2 (s.trans s2)
theorem Nq.isGs {K : PySem.W.Frag} {H : Hp} {v : V} {q : Rat} (h : Nq K H v q) : IsGs K H v true := fun _ s => (h.same s).isG
/-- the items, which of them are fractions -/
def Its (K : PySem.W.Frag) (H : Hp) (xs : List V) (rs : List Bool) : Prop := xs.length = rs.length ∧ ∀ (i : Nat) (x : V) (r : Bool), xs[i]? = some x → rs[i]? = some r → IsGs K H x r
theorem Its.same {K : PySem.W.Frag} {H H' : Hp} {xs : List V} {rs : List Bool} (h : Its K H xs rs) (s : Same H H') : Its K H' xs rs := ⟨h.1, fun i x r h1 h2 => (h.2 i x r h1 h2).same s⟩
theorem Nl.its {K : PySem.W.Frag} {H : Hp} {xs : List V} {qs : List Rat} (h : Nl K H xs qs) : Its K H xs (List.replicate qs.length true) := by
  refine ⟨by rw [h.1, List.length_replicate], fun i x r h1 h2 => ?_⟩
  obtain ⟨q, _, n⟩ := h.get h1
  rw [List.getElem?_replicate] at h2
  split at h2
  · rw [← Option.some.inj h2]
    exact n.isGs
  · cases h2
theorem bad_rep (n k : Nat) : badAt (List.replicate n true) k = none := badAt_none _ _ fun r hr => List.eq_of_mem_replicate hr
/-- a list or a tuple -/
def SqH (H : Hp) (a : Addr) (xs : List V) : Prop := H a = some (.lst xs) ∨ H a = some (.tup xs)
theorem SqH.same {H H' : Hp} {a : Addr} {xs : List V} (h : SqH H a xs) (s : Same H H') : SqH H' a xs := h.imp (s _ _) (s _ _)
/-- is v a list or a tuple: r -/
def LsV (K : PySem.W.Frag) (H : Hp) (v : V) (r : Bool) : Prop := ∀ H', Same H H' → ∃ T, TyX K H' v T ∧ PySem.W.kitAny K T [.type "list", .type "tuple"] = some r
theorem LsV.same {K : PySem.W.Frag} {H H' : Hp} {v : V} {r : Bool} (h : LsV K H v r) (s : Same H H') : LsV K H' v r := fun H2 s2 => h H2 (s.trans s2)
theorem SqH.lsv {K : PySem.W.Frag} {H : Hp} {a : Addr} {xs : List V} (h : SqH H a xs) : LsV K H (.ref a) true := fun H' s => by
  rcases h with h | h
  · exact ⟨_, .base (.lst (s _ _ h)), kit2 kb_l.1 kb_l.2.1 rfl⟩
  · exact ⟨_, .base (.tup (s _ _ h)), kit2 kb_l.2.2.1 kb_l.2.2.2 rfl⟩
def spIl (K : PySem.W.Frag) : Sp := fun vs H Q _ => ∃ (v : V) (r : Bool), vs = [v] ∧ LsV K H v r ∧ ∀ H', Same H H' → Q (.bl r) H'
def spWi (K : PySem.W.Frag) : Sp := fun vs H Q _ => ∃ (a : Addr) (xs : List V) (rs : List Bool), vs = [.ref a] ∧ SqH H a xs ∧ Its K H xs rs ∧ ∀ H', Same H H' → Q (optV (badAt rs 0)) H'
def spCf (K : PySem.W.Frag) (CF : Addr) : Sp := fun vs H Q E => ∃ (a : Addr) (xs : List V) (rs : List Bool), vs = [.ref a] ∧ SqH H a xs ∧ Its K H xs rs ∧ (badAt rs 0 = none → ∀ H', Same H H' → Q .non H') ∧ ∀ k : Nat, badAt rs 0 = some k → Air H CF (fs1 "InvalidFraction" "at" [.int (k : Nat)]) E
def spCn (K : PySem.W.Frag) (CF CO : Addr) : Sp := fun vs H Q E => ∃ (v : V) (fu : Int), vs = [v, .int fu] ∧
  ((LsV K H v false ∧ Air H CF (fs1 "InvalidFraction" "at" [.int (-1)]) E) ∨
   ∃ (a : Addr) (xs : List V) (rs : List Bool), v = .ref a ∧ SqH H a xs ∧
     (((xs.length : Int) + fu < 2 ∨ 24 < (xs.length : Int) + fu) ∧ Air H CO (fs1 "InvalidOrder" "value" [.int ((xs.length : Int) + fu)]) E ∨
      2 ≤ (xs.length : Int) + fu ∧ (xs.length : Int) + fu ≤ 24 ∧ Its K H xs rs ∧ (∀ k : Nat, badAt rs 0 = some k → Air H CF (fs1 "InvalidFraction" "at" [.int (k : Nat)]) E) ∧
        (badAt rs 0 = none → ∀ H' b, Same H H' → H b = none → H' b = some (.lst xs) → Q (.ref b) H')))
abbrev nWi : List Str := ["numbers", "at", "number"]
section
variable {P : Program} {w : World} {K : PySem.W.Frag} {mg : Str → Option Value} {base : Heap} {f fW CO CN CP CL CU CF : Addr} {fd fdW : FuncData}
theorem scIl : FnScope ["value"] ["value"] (defScope F_is_listing) := ⟨rfl, rfl, rfl, by decide +kernel, rfl, by decide +kernel, by decide +kernel⟩
theorem ok_listing (G : Fun K "is_listing" "is_listing" F_is_listing f fd) (mI : mg "isinstance" = none) (ml : mg "list" = none) (mt : mg "tuple" = none) : FnOk P w K mg base CX0 1 f fd ["value"] (spIl K) := by
  refine G.ok scIl (fun vs H Q E h => ?_) (fun cdv A outer s H vs Q E hr h => ?_)
  · obtain ⟨v, r, rfl, _⟩ := h
    rfl
  obtain ⟨v, r, rfl, hv, q⟩ := h
  refine ⟨_, pss_one (ps_ret (pe_callB call_isiT rfl mI (by decide +kernel) (pa_cons (pv 0) (pa_cons (pe_tup (pa_cons (pe_bltn rfl ml boot_list (rel_ty _)) (pa_cons (pe_bltn rfl mt boot_tuple (rel_ty _)) pa_nil))) pa_nil)))), ?_⟩
  refine ⟨_, rfl, (by show 2 ≤ sizeLine; decide), fun p np => ?_⟩
  have g1 := new_same np (.tup [.ty "list", .ty "tuple"])
  obtain ⟨T, ty, k⟩ := hv _ g1
  exact ⟨_, p, _, T, _, r, rfl, upd_same, .cons (.ty _) (.cons (.ty _) .nil), ty, k, q _ g1⟩
theorem scWi : FnScope nWi ["numbers"] (defScope F_wrong_item) := ⟨rfl, rfl, rfl, by decide +kernel, rfl, by decide +kernel, by decide +kernel⟩
theorem ok_wrong (G : Fun K "wrong_item" "wrong_item" F_wrong_item f fd) (me : mg "enumerate" = none) (UF : Use P w K mg base CX0 2 "is_fraction" ["value"] (spIsG K) []) : FnOk P w K mg base CX0 3 f fd ["numbers"] (spWi K) := by
  refine G.ok scWi (fun vs H Q E h => ?_) (fun cdv A outer s H vs Q E hr h => ?_)
  · obtain ⟨a, xs, rs, rfl, _⟩ := h
    rfl
  obtain ⟨a, xs, rs, rfl, ha, ⟨hl, hI⟩, q⟩ := h
  refine ⟨_, pss_cons (ps_for PassesOwn.never rfl (pi_enumA rfl me (pa_cons (pv 0) pa_nil)) (pg_tup rfl (pgs_cons (pg_name (i := 1) scWi.nd rfl (Or.inl rfl)) (pgs_cons (pg_name (i := 2) scWi.nd rfl (Or.inl rfl)) pgs_nil)))
      (pss_one (ps_if (pt_not (pt_val (pe_use UF hr rfl pass0 (pa_cons (pv 2) pa_nil)))) (pss_one (ps_ret (pv 1))) pss_nil)))
    (pss_one (ps_ret pe_non)), ?_⟩
  refine ⟨_, rfl, a, xs, rfl, ?_⟩
  have turn : ∀ (i : Nat) (x : V) (σ : L2.St) (H2 H3 : Hp), i < xs.length → (Same H H2 ∧ (∀ r ∈ rs.take i, r = true) ∧ ∃ v v', σ = [some (.ref a), v, v']) → YPair (fun i => some (.int (i : Nat))) (fun i => xs[i]?) i H2 x H3 →
      ∃ (T : Addr) (z : V) (r : Bool), x = .ref T ∧ H2 T = none ∧ H3 = upd H2 T (.tup [.int (i : Nat), z]) ∧ xs[i]? = some z ∧ rs[i]? = some r ∧ IsG K H3 z r ∧ Same H H3 := by
    rintro i x σ H2 H3 hi ⟨s2, _, _⟩ ⟨T, y, z, rfl, hT, rfl, hy, hz⟩
    obtain rfl : y = .int ((i : Nat) : Int) := (Option.some.inj hy).symm
    have s3 := s2.trans (new_same hT (.tup [.int (i : Nat), z]))
    have er := List.getElem?_eq_getElem (l := rs) (i := i) (by omega)
    exact ⟨T, z, _, rfl, hT, rfl, hz, er, hI i z _ hz er _ s3, s3⟩
  have fin : ∀ (σ : L2.St) (H2 : Hp), (Same H H2 ∧ (∀ r ∈ rs.take xs.length, r = true) ∧ ∃ v v', σ = [some (.ref a), v, v']) → Q .non H2 := by
    rintro σ H2 ⟨s2, h, _⟩
    rw [hl, List.take_length] at h
    have := q H2 s2
    rw [badAt_none rs 0 h] at this
    exact this
  rcases ha with ha | ha
  · refine .inl ⟨SqL.of ha, ?_⟩
    refine for_it (walk_enum (K := K) (a := a) (xs := xs)) (fun i σ H' => Same H H' ∧ (∀ r ∈ rs.take i, r = true) ∧ ∃ v v', σ = [some (.ref a), v, v']) ⟨Same.refl H, by simp, none, none, rfl⟩ (fun i σ H' _ h => SqL.of (h.1 _ _ ha)) ?_ fin
    intro i x σ H2 H3 hi hp hY
    obtain ⟨T, z, r, rfl, hT, rfl, hz, er, ig, s3⟩ := turn i x σ H2 H3 hi hp hY
    obtain ⟨s2, h2, v, v', rfl⟩ := hp
    refine ⟨T, [_, _], rfl, SqT.of upd_same, rfl, _, [_], rfl, _, [], rfl, rfl, ?_⟩
    refine ⟨_, rfl, z, r, rfl, ig, _, rfl, ?_⟩
    cases r with
    | true =>
      refine iteF ⟨s3, fun b hb => ?_, _, _, rfl⟩
      rw [List.take_add_one, er] at hb
      rcases List.mem_append.mp hb with hb | hb
      · exact h2 b hb
      · simpa using hb
    | false =>
      have := q _ s3
      rw [badAt_hit rs 0 i h2 er, Nat.zero_add] at this
      exact iteT ⟨_, rfl, this⟩
  · refine .inr ⟨SqT.of ha, ?_⟩
    refine for_it (walk_enumT (K := K) (a := a) (xs := xs)) (fun i σ H' => Same H H' ∧ (∀ r ∈ rs.take i, r = true) ∧ ∃ v v', σ = [some (.ref a), v, v']) ⟨Same.refl H, by simp, none, none, rfl⟩ (fun i σ H' _ h => SqT.of (h.1 _ _ ha)) ?_ fin
    intro i x σ H2 H3 hi hp hY
    obtain ⟨T, z, r, rfl, hT, rfl, hz, er, ig, s3⟩ := turn i x σ H2 H3 hi hp hY
    obtain ⟨s2, h2, v, v', rfl⟩ := hp
    refine ⟨T, [_, _], rfl, SqT.of upd_same, rfl, _, [_], rfl, _, [], rfl, rfl, ?_⟩
    refine ⟨_, rfl, z, r, rfl, ig, _, rfl, ?_⟩
    cases r with
    | true =>
      refine iteF ⟨s3, fun b hb => ?_, _, _, rfl⟩
      rw [List.take_add_one, er] at hb
      rcases List.mem_append.mp hb with hb | hb
      · exact h2 b hb
      · simpa using hb
    | false =>
      have := q _ s3
      rw [badAt_hit rs 0 i h2 er, Nat.zero_add] at this
      exact iteT ⟨_, rfl, this⟩
theorem scCf : FnScope ["numbers", "at"] ["numbers"] (defScope F_check_fractions) := ⟨rfl, rfl, rfl, by decide +kernel, rfl, by decide +kernel, by decide +kernel⟩
theorem ok_cfrac (G : Fun K "check_fractions" "check_fractions" F_check_fractions f fd) (UW : Use P w K mg base CX0 3 "wrong_item" ["numbers"] (spWi K) []) (Z : ErrC P w K mg base "InvalidFraction" 1 (fs1 "InvalidFraction" "at") CF) : FnOk P w K mg base (L2.CX P w) 4 f fd ["numbers"] (spCf K CF) := by
  refine G.okX scCf (fun vs H Q E h => ?_) (fun cdv A outer s H vs Q E hr h => ?_)
  · obtain ⟨a, xs, rs, rfl, _⟩ := h
    rfl
  obtain ⟨a, xs, rs, rfl, ha, hI, q, qe⟩ := h
  obtain ⟨fI, fdI, ps, i1, i2, i3, i4⟩ := Z.i
  refine ⟨_, pss_cons (ps_set (i := 1) scCf.nd rfl (Or.inl rfl) (pe_use UW hr rfl pass0 (pa_cons (pv 0) pa_nil)))
    (pss_one (ps_if (pt_cmpR op_notN (pv 1) pe_non (nomark _)) (pss_one (ps_raise rfl (takes_of rfl rfl rfl rfl) (pmk_xo Z.T Z.ty i1 i2 i3 (hr.mono (by decide)) i4 pass0 rfl Z.m (pa_cons (pv 1) pa_nil)))) pss_nil)), ?_⟩
  refine ⟨_, rfl, a, xs, rs, rfl, ha, hI, fun H1 s1 => ?_⟩
  refine ⟨_, rfl, rfl, _, rfl, ?_⟩
  cases e : badAt rs 0 with
  | none => exact iteF (q e H1 s1)
  | some k => exact iteT ⟨_, rfl, (by show 1 ≤ 1000; decide), fun a na => air_of (C := CF) (n := 1) (ws := [.int (k : Nat)]) na rfl ((qe k e).same s1)⟩
theorem scCn : FnScope ["numbers", "further"] ["numbers", "further"] (defScope F_checked_numbers) := ⟨rfl, rfl, rfl, by decide +kernel, rfl, by decide +kernel, by decide +kernel⟩
theorem ok_checked (G : Fun K "checked_numbers" "checked_numbers" F_checked_numbers f fd) (mn : mg "len" = none) (ml : mg "list" = none) (UI : Use P w K mg base CX0 1 "is_listing" ["value"] (spIl K) [])
    (UC : Use P w K mg base (L2.CX P w) 3 "check_order" ["order"] (spCo K CO) []) (UF : Use P w K mg base (L2.CX P w) 4 "check_fractions" ["numbers"] (spCf K CF) []) (Z : ErrC P w K mg base "InvalidFraction" 1 (fs1 "InvalidFraction" "at") CF) :
    FnOk P w K mg base (L2.CX P w) 5 f fd ["numbers", "further"] (spCn K CF CO) := by
  refine G.okX scCn (fun vs H Q E h => ?_) (fun cdv A outer s H vs Q E hr h => ?_)
  · obtain ⟨v, fu, rfl, _⟩ := h
    rfl
  obtain ⟨v, fu, rfl, hh⟩ := h
  obtain ⟨fI, fdI, ps, i1, i2, i3, i4⟩ := Z.i
  refine ⟨_, pss_cons (ps_if (pt_not (pt_val (pe_use UI (hr.mono (by decide)) rfl pass0 (pa_cons (pv 0) pa_nil)))) (pss_one (ps_raise rfl (takes_of rfl rfl rfl rfl) (pmk_xo Z.T Z.ty i1 i2 i3 (hr.mono (by decide)) i4 pass0 rfl Z.m (pa_cons (pe_un un_neg pe_int) pa_nil)))) pss_nil)
    (pss_cons (ps_expr (pe_use (E := E) UC (hr.mono (by decide)) rfl (passes_call (takes_of rfl rfl rfl rfl) (fun _ _ _ _ h => h)) (pa_cons (pe_op op_add (pe_callB call_len_seq rfl mn PySem.boot_len (pa_cons (pv 0) pa_nil)) (pv 1)) pa_nil)))
    (pss_cons (ps_expr (pe_use (E := E) UF hr rfl (passes_call (takes_of rfl rfl rfl rfl) (fun _ _ _ _ h => h)) (pa_cons (pv 0) pa_nil)))
    (pss_one (ps_ret (pe_callTy call_list_of rfl ml (by decide +kernel) (pa_cons (pv 0) pa_nil)))))), ?_⟩
  rcases hh with ⟨hv, air⟩ | ⟨a, xs, rs, rfl, ha, hh⟩
  · refine ⟨_, rfl, v, false, rfl, hv, fun H1 s1 => ⟨_, rfl, iteT ⟨1, rfl, (by show 1 ≤ 1000; decide), fun a na => air_of (C := CF) (n := 1) (ws := [.int (-1)]) na rfl (air.same s1)⟩⟩⟩
  · refine ⟨_, rfl, .ref a, true, rfl, ha.lsv, fun H1 s1 => ⟨_, rfl, iteF ?_⟩⟩
    have ha1 := ha.same s1
    have len1 : ∀ {H2 : Hp}, SqH H2 a xs → (SqL K H2 a xs ∨ SqT K H2 a xs) := fun h => h.imp SqL.of SqT.of
    refine ⟨_, rfl, a, xs, rfl, len1 ha1, _, rfl, _, _, rfl, rfl, ?_⟩
    rcases hh with ⟨ho, air⟩ | ⟨l1, l2, hI, qf, q⟩
    · exact ⟨_, false, rfl, .no ho, fun z => Bool.noConfusion z, fun _ => air.same s1⟩
    · refine ⟨_, true, rfl, .yes l1 l2, fun _ => ?_, fun z => Bool.noConfusion z⟩
      refine ⟨_, rfl, a, xs, rs, rfl, ha1, hI.same s1, fun hb H2 s2 => ?_, fun k hk => (qf k hk).same s1⟩
      have ha2 := ha1.same s2
      exact ⟨_, rfl, a, xs, rfl, len1 ha2, fun b nb => q hb _ b ((s1.trans s2).trans (new_same nb _)) ((s1.trans s2).free nb) upd_same⟩
end
end Kx
end
section
set_option maxHeartbeats 4000000
namespace Kx
open PySem PySem.Spec PyProof.Rows L2 RZ
theorem KP.dp {K : PySem.W.Frag} {a : Addr} {x y : Int} (k : KP K a x y) (H : Hp) : Dp K H (.ref a) (.tuple [.int x, .int y]) := .tup (k.t H) (.cons (.int _) (.cons (.int _) .nil))
theorem cut_drop (xs : List V) (k : Nat) : cutV xs (some (k : Int)) none = xs.drop k := by
  unfold cutV
  rw [HT.sIx_nat, HT.sIx_none, List.take_of_length_le (by rw [List.length_drop]; omega)]
  by_cases c : k ≤ xs.length
  · rw [Nat.min_eq_left c]
  · rw [Nat.min_eq_right (by omega), List.drop_of_length_le (Nat.le_refl _), List.drop_of_length_le (by omega)]
theorem cut_take (xs : List V) (k : Nat) : cutV xs none (some (k : Int)) = xs.take k := by
  unfold cutV
  rw [HT.sIx_nat, HT.sIx_none, List.drop_zero, Nat.sub_zero]
  by_cases c : k ≤ xs.length
  · rw [Nat.min_eq_left c]
  · rw [Nat.min_eq_right (by omega), List.take_of_length_le (Nat.le_refl _), List.take_of_length_le (by omega)]
/-- the least place with a number that is not 0 -/
def hgtV (qs : List Rat) (f : Int) : V := match hgtN qs 0 with
  | none => .non
  | some k => .int (f + (k : Nat))
theorem hgtN_hit : ∀ (qs : List Rat) (i f : Nat) (q : Rat), (∀ r ∈ qs.take i, r = 0) → qs[i]? = some q → q ≠ 0 → hgtN qs f = some (f + i)
  | [], _, _, _, _, h, _ => by simp at h
  | r :: rs, 0, f, q, _, h, hq => by
    have e : r = q := Option.some.inj (show some r = some q from h)
    show (if r = 0 then hgtN rs (f + 1) else some f) = some f
    rw [if_neg (by rw [e]; exact hq)]
  | r :: rs, i + 1, f, q, h, e, hq => by
    have hr : r = 0 := h r (by simp)
    show (if r = 0 then hgtN rs (f + 1) else some f) = _
    rw [if_pos hr, hgtN_hit rs i (f + 1) q (fun x hx => h x (by simp [hx])) (by simpa using e) hq]
    congr 1
    omega
theorem hgtN_none (qs : List Rat) (f : Nat) (h : ∀ q ∈ qs, q = 0) : hgtN qs f = none := by
  have := hgtN_app_zero qs f [] h
  rw [List.append_nil] at this
  rw [this]
  rfl
def spIz (K : PySem.W.Frag) : Sp := fun vs H Q _ => ∃ (x : V) (qs : List Rat), vs = [x] ∧ Ls K H x qs ∧ qs.length ≤ 100 ∧ ∀ H', Same H H' → Q (.bl (qs.all fun q => decide (q = 0))) H'
def spLp (K : PySem.W.Frag) : Sp := fun vs H Q _ => ∃ (x : V) (qs : List Rat) (fi : Int), vs = [x, .int fi] ∧ Ls K H x qs ∧ ∀ H', Same H H' → Q (hgtV qs fi) H'
/-- the kind of a step -/
def kindS (qs : List Rat) : Str :=
  if qs.getD 0 0 = 0 then (if (qs.drop 1).all (fun q => decide (q = 0)) = true then "nothing" else "crush")
  else if qs.getD 0 0 = 1 then (if (qs.drop 1).all (fun q => decide (q = 0)) = true then "still" else "creep")
  else if qs.getD 0 0 = -1 then "flip" else "stretch"
def spKo (K : PySem.W.Frag) : Sp := fun vs H Q _ => ∃ (x : V) (qs : List Rat), vs = [x] ∧ Ls K H x qs ∧ 1 ≤ qs.length ∧ qs.length ≤ 100 ∧ ∀ H', Same H H' → Q (.str (kindS qs)) H'
abbrev nIz : List Str := ["numbers", "number"]
abbrev nLp : List Str := ["numbers", "first", "at", "number"]
abbrev nKo : List Str := ["numbers", "lead", "bent"]
theorem eqD_at {X : Cx} (K : PySem.W.Frag) (h : X.K = K) (hu : X.A.units + 64 < cLine) : OpR X (compareOp .Eq) (rEqD K) := by
  subst h
  exact op_eqD hu
section
variable {P : Program} {w : World} {K : PySem.W.Frag} {mg : Str → Option Value} {base : Heap} {f fI o1 o0 om : Addr} {fd : FuncData}
theorem scIz : FnScope nIz ["numbers"] (defScope F_is_zero) := ⟨rfl, rfl, rfl, by decide +kernel, rfl, by decide +kernel, by decide +kernel⟩
theorem ok_iszero (G : Fun K "is_zero" "is_zero" F_is_zero f fd) (k0 : KP K o0 0 1) (ma : mg "all" = none) (mZ : mg "ZERO" = some (.ref o0)) : FnOk P w K mg base CX0 1 f fd ["numbers"] (spIz K) := by
  refine G.ok scIz (fun vs H Q E h => ?_) (fun cdv A outer s H vs Q E hr h => ?_)
  · obtain ⟨x, qs, rfl, _⟩ := h
    rfl
  obtain ⟨x, qs, rfl, ⟨a, xs, rfl, ha, nx⟩, hn, q⟩ := h
  refine ⟨_, pss_one (ps_ret (pe_callB (cr_all rfl) rfl ma (by decide +kernel) (pa_cons (pe_lc (own := [("number", 1)]) (g := gName 1) (tt := tYes) rfl scIz.nd (pi_list (pv 0)) (blkOk_by (N := nIz) (sc := defScope F_is_zero) (by decide +kernel)) (fun _ _ _ _ _ => pg_name (i := 1) scIz.nd rfl (Or.inl rfl)) (fun _ _ _ _ _ => pts_nil)
        (fun _ _ _ _ _ => pe_cmpR (eqD_at K rfl hr.units) (pv 1) (C8.pe_gc (v := .ref o0) rfl ⟨_, mZ, rfl⟩) (nomark _))) pa_nil))), ?_⟩
  have lx : xs.length = qs.length := nx.1
  refine ⟨_, rfl, a, rfl, ⟨_, SqL.of ha⟩, fun D nD => ?_⟩
  refine lc_acc (walk_list (K := K) (a := a) (xs := xs)) (fun i _ y => ∀ r, qs[i]? = some r → y = .bl (decide (r = 0))) (fun i H H' y l h _ _ => h) nD (by omega) (fun H2 s => SqL.of (s _ _ ha)) ?_ ?_
  · rintro i x H2 H3 k hi s2 ⟨rfl, hx2⟩ hk
    obtain ⟨b, eb, nb⟩ := nx.get hx2
    refine ⟨rfl, _, rfl, tupQ b, tupQ 0, (nb.same s2).dp, k0.dp _, rfl, rfl, ?_⟩
    rw [eqv_num]
    exact hk _ _ (Same.refl _) fun r hr => by rw [eb] at hr; rw [← Option.some.inj hr]
  · intro H2 zs s2 hD hl hR
    have ez : zs = (qs.map fun q => decide (q = 0)).map V.bl := by
      apply List.ext_getElem?
      intro i
      rw [List.map_map, List.getElem?_map]
      by_cases c : i < qs.length
      · rw [List.getElem?_eq_getElem c]
        have e := List.getElem?_eq_getElem (l := zs) (i := i) (by omega)
        rw [e, hR i _ e _ (List.getElem?_eq_getElem c)]
        rfl
      · rw [List.getElem?_eq_none (by omega), List.getElem?_eq_none (by omega)]
        rfl
    refine ⟨D, _, rfl, SqL.of (by rw [hD, ez]), ?_⟩
    rw [List.all_map]
    exact q _ s2
theorem scLp : FnScope nLp ["numbers", "first"] (defScope F_least_place) := ⟨rfl, rfl, rfl, by decide +kernel, rfl, by decide +kernel, by decide +kernel⟩
theorem ok_least (G : Fun K "least_place" "least_place" F_least_place f fd) (k0 : KP K o0 0 1) (me : mg "enumerate" = none) (mZ : mg "ZERO" = some (.ref o0)) : FnOk P w K mg base CX0 1 f fd ["numbers", "first"] (spLp K) := by
  refine G.ok scLp (fun vs H Q E h => ?_) (fun cdv A outer s H vs Q E hr h => ?_)
  · obtain ⟨x, qs, fi, rfl, _⟩ := h
    rfl
  obtain ⟨x, qs, fi, rfl, ⟨a, xs, rfl, ha, nx⟩, q⟩ := h
  refine ⟨_, pss_cons (ps_for PassesOwn.never rfl (pi_enum rfl me (pa_cons (pv 0) pa_nil)) (pg_tup rfl (pgs_cons (pg_name (i := 2) scLp.nd rfl (Or.inl rfl)) (pgs_cons (pg_name (i := 3) scLp.nd rfl (Or.inl rfl)) pgs_nil)))
      (pss_one (ps_if (pt_cmpR (op_neD hr.units) (pv 3) (C8.pe_gc (v := .ref o0) rfl ⟨_, mZ, rfl⟩) (nomark _)) (pss_one (ps_ret (pe_op op_add (pv 1) (pv 2)))) pss_nil)))
    (pss_one (ps_ret pe_non)), ?_⟩
  refine ⟨_, rfl, a, _, rfl, SqL.of ha, ?_⟩
  refine for_it (walk_enum (K := K) (a := a) (xs := xs)) (fun i σ H' => Same H H' ∧ (∀ r ∈ qs.take i, r = 0) ∧ ∃ v v', σ = [some (.ref a), some (.int fi), v, v']) ⟨Same.refl H, by simp, none, none, rfl⟩ (fun i σ H' _ h => SqL.of (h.1 _ _ ha)) ?_ ?_
  · rintro i x σ H2 H3 hi ⟨s2, h2, v, v', rfl⟩ ⟨T, y, z, rfl, hT, rfl, hy, hz⟩
    refine ⟨T, [_, _], rfl, SqT.of upd_same, rfl, _, [_], rfl, _, [], rfl, rfl, ?_⟩
    have s3 := s2.trans (new_same hT (.tup [y, z]))
    obtain ⟨b, eb, nb⟩ := nx.get hz
    obtain rfl : y = .int ((i : Nat) : Int) := (Option.some.inj hy).symm
    refine ⟨_, rfl, tupQ b, tupQ 0, (nb.same s3).dp, k0.dp _, rfl, rfl, _, rfl, ?_⟩
    rw [eqv_num]
    by_cases c : b = 0
    · rw [decide_eq_true c]
      refine iteF ⟨s3, fun r hr => ?_, _, _, rfl⟩
      rw [List.take_add_one, eb] at hr
      rcases List.mem_append.mp hr with hr | hr
      · exact h2 r hr
      · rw [← c]
        simpa using hr
    · rw [decide_eq_false c]
      refine iteT ⟨_, rfl, _, rfl, fi, _, rfl, rfl, ?_⟩
      have := q _ s3
      unfold hgtV at this
      rw [hgtN_hit qs i 0 b h2 eb c, Nat.zero_add] at this
      exact this
  · rintro σ H2 ⟨s2, h2, v, v', rfl⟩
    rw [nx.1, List.take_length] at h2
    have := q _ s2
    unfold hgtV at this
    rw [hgtN_none qs 0 h2] at this
    exact this
theorem scKo : FnScope nKo ["numbers"] (defScope F_kind_of) := ⟨rfl, rfl, rfl, by decide +kernel, rfl, by decide +kernel, by decide +kernel⟩
theorem ok_kind (G : Fun K "kind_of" "kind_of" F_kind_of f fd) (k1 : KP K o1 1 1) (k0 : KP K o0 0 1) (km : KP K om (-1) 1) (mZ : mg "ZERO" = some (.ref o0)) (mO : mg "ONE" = some (.ref o1)) (mM : mg "MINUS_ONE" = some (.ref om))
    (UZ : Use P w K mg base CX0 1 "is_zero" ["numbers"] (spIz K) []) : FnOk P w K mg base CX0 2 f fd ["numbers"] (spKo K) := by
  refine G.ok scKo (fun vs H Q E h => ?_) (fun cdv A outer s H vs Q E hr h => ?_)
  · obtain ⟨x, qs, rfl, _⟩ := h
    rfl
  obtain ⟨x, qs, rfl, ⟨a, xs, rfl, ha, nx⟩, h1, hn, q⟩ := h
  refine ⟨_, pss_cons (ps_set (i := 1) scKo.nd rfl (Or.inl rfl) (pe_ix ix_list (pv 0) pe_int (fun _ _ => rfl)))
    (pss_cons (ps_set (i := 2) scKo.nd rfl (Or.inl rfl) (pe_not (pe_use UZ hr rfl pass0 (pa_cons (pe_slice sl_list (pv 0) (po_some pe_int) po_none) pa_nil))))
    (pss_cons (ps_if (pt_cmpR (op_eqD hr.units) (pv 1) (C8.pe_gc (v := .ref o0) rfl ⟨_, mZ, rfl⟩) (nomark _)) (pss_one (ps_ret (pe_ifExp (pt_val (pv 2)) pe_str pe_str))) pss_nil)
    (pss_cons (ps_if (pt_cmpR (op_eqD hr.units) (pv 1) (C8.pe_gc (v := .ref o1) rfl ⟨_, mO, rfl⟩) (nomark _)) (pss_one (ps_ret (pe_ifExp (pt_val (pv 2)) pe_str pe_str))) pss_nil)
    (pss_one (ps_ret (pe_ifExp (pt_cmpR (op_eqD hr.units) (pv 1) (C8.pe_gc (v := .ref om) rfl ⟨_, mM, rfl⟩) (nomark _)) pe_str pe_str)))))), ?_⟩
  obtain ⟨x0, e0, n0⟩ := nx.get' (i := 0) (by omega)
  have g0 : qs.getD 0 0 = qs[0] := by rw [List.getD_eq_getElem?_getD, List.getElem?_eq_getElem (by omega)]; rfl
  generalize hq0 : qs[0] = q0 at n0 g0
  refine ⟨_, rfl, a, _, 0, _, rfl, rfl, SqL.of ha, at_of (j := 0) rfl e0, _, rfl, 1, rfl, a, _, rfl, SqL.of ha, fun b nb => ?_⟩
  have ec : cutV xs (some 1) none = xs.drop 1 := cut_drop xs 1
  rw [ec]
  have s1 := new_same nb (.lst (xs.drop 1))
  refine ⟨.ref b, qs.drop 1, rfl, ⟨b, _, rfl, upd_same, (nx.drop 1).same s1⟩, by rw [List.length_drop]; omega, fun H2 s2 => ?_⟩
  have s2 := s1.trans s2
  have n2 := n0.same s2
  have dp2 : ∀ {H3}, H3 = H2 → Dp K H3 x0 (tupQ q0) := fun e => by rw [e]; exact n2.dp
  have e1 : tupQ 1 = .tuple [.int 1, .int 1] := rfl
  have em : tupQ (-1) = .tuple [.int (-1), .int 1] := rfl
  have eb : ∀ b : Bool, b = (qs.drop 1).all (fun q => decide (q = 0)) → (qs.drop 1).all (fun q => decide (q = 0)) = b := fun b h => h.symm
  generalize hz : (qs.drop 1).all (fun q => decide (q = 0)) = z
  refine ⟨_, rfl, _, rfl, tupQ q0, tupQ 0, n2.dp, k0.dp _, rfl, rfl, _, rfl, ?_⟩
  rw [eqv_num]
  by_cases c0 : q0 = 0
  · rw [decide_eq_true c0]
    have qk := q _ s2
    unfold kindS at qk
    rw [g0, if_pos c0, hz] at qk
    refine iteT ⟨_, rfl, _, rfl, ?_⟩
    cases z with
    | true => exact iteF qk
    | false => exact iteT qk
  rw [decide_eq_false c0]
  refine iteF ?_
  refine ⟨_, rfl, tupQ q0, tupQ 1, n2.dp, k1.dp _, rfl, rfl, _, rfl, ?_⟩
  rw [eqv_num]
  by_cases c1 : q0 = 1
  · rw [decide_eq_true c1]
    have qk := q _ s2
    unfold kindS at qk
    rw [g0, if_neg c0, if_pos c1, hz] at qk
    refine iteT ⟨_, rfl, _, rfl, ?_⟩
    cases z with
    | true => exact iteF qk
    | false => exact iteT qk
  rw [decide_eq_false c1]
  refine iteF ?_
  have qk := q _ s2
  unfold kindS at qk
  rw [g0, if_neg c0, if_neg c1] at qk
  refine ⟨_, rfl, tupQ q0, tupQ (-1), n2.dp, km.dp _, rfl, rfl, _, rfl, ?_⟩
  rw [eqv_num]
  by_cases cm : q0 = -1
  · rw [decide_eq_true cm]
    rw [if_pos cm] at qk
    exact iteT qk
  · rw [decide_eq_false cm]
    rw [if_neg cm] at qk
    exact iteF qk
end
end Kx
end
section
set_option maxHeartbeats 4000000
namespace Kx
open PySem PySem.Spec PyProof.Rows L2 RZ
def rwF (b : Addr) (n : Int) (hv : V) : List (Str × V) := [("_numbers", .ref b), ("order", .int n), ("height", hv)]
def stF (b : Addr) (n : Int) (x0 : V) (kd : Str) (hv fv sv : V) : List (Str × V) := [("_numbers", .ref b), ("order", .int n), ("lead", x0), ("kind", .str kd), ("height", hv), ("flat", fv), ("strength", sv)]
def rwN : List Str := ["_numbers", "order", "height"]
def stN : List Str := ["_numbers", "order", "lead", "kind", "height", "flat", "strength"]
/-- a row with these numbers -/
def RwAt (K : PySem.W.Frag) (C : Addr) (H : Hp) (v : V) (qs : List Rat) : Prop := ∃ (x dx b : Addr) (xs : List V), v = .ref x ∧ H x = some (.ins C dx (rwF b ((qs.length : Int) - 1) (hgtV qs 0))) ∧ H b = some (.lst xs) ∧ Nl K H xs qs ∧ 3 ≤ qs.length ∧ qs.length ≤ 25
theorem RwAt.same {K : PySem.W.Frag} {C : Addr} {H H' : Hp} {v : V} {qs : List Rat} (h : RwAt K C H v qs) (s : Same H H') : RwAt K C H' v qs := by
  obtain ⟨x, dx, b, xs, e, h1, h2, h3, h4⟩ := h
  exact ⟨x, dx, b, xs, e, s _ _ h1, s _ _ h2, h3.same s, h4⟩
/-- a step with these numbers -/
def StAt (K : PySem.W.Frag) (S : Addr) (H : Hp) (v : V) (qs : List Rat) : Prop := ∃ (x dx b : Addr) (xs : List V) (x0 fv sv : V), v = .ref x ∧ H x = some (.ins S dx (stF b (qs.length : Int) x0 (kindS qs) (hgtV qs 1) fv sv)) ∧ H b = some (.lst xs) ∧ Nl K H xs qs ∧ xs[0]? = some x0 ∧ 2 ≤ qs.length ∧ qs.length ≤ 24
theorem StAt.same {K : PySem.W.Frag} {S : Addr} {H H' : Hp} {v : V} {qs : List Rat} (h : StAt K S H v qs) (s : Same H H') : StAt K S H' v qs := by
  obtain ⟨x, dx, b, xs, x0, fv, sv, e, h1, h2, h3, h4⟩ := h
  exact ⟨x, dx, b, xs, x0, fv, sv, e, s _ _ h1, s _ _ h2, h3.same s, h4⟩
/-- what a constructor may be given: refused, or not -/
def Giv (K : PySem.W.Frag) (CF CO : Addr) (H : Hp) (v : V) (fu : Int) (E : XK) (good : List V → List Rat → Prop) : Prop :=
  (LsV K H v false ∧ Air H CF (fs1 "InvalidFraction" "at" [.int (-1)]) E) ∨
   ∃ (a : Addr) (xs : List V), v = .ref a ∧ SqH H a xs ∧
     (((xs.length : Int) + fu < 2 ∨ 24 < (xs.length : Int) + fu) ∧ Air H CO (fs1 "InvalidOrder" "value" [.int ((xs.length : Int) + fu)]) E ∨
      2 ≤ (xs.length : Int) + fu ∧ (xs.length : Int) + fu ≤ 24 ∧
        ((∃ (rs : List Bool) (k : Nat), Its K H xs rs ∧ badAt rs 0 = some k ∧ Air H CF (fs1 "InvalidFraction" "at" [.int (k : Nat)]) E) ∨ ∃ qs : List Rat, Nl K H xs qs ∧ good xs qs))
def spRI (K : PySem.W.Frag) (C CF CO : Addr) : Sp := fun vs H Q E => ∃ (x dx : Addr) (v : V), vs = [.ref x, v] ∧ v ≠ .ref x ∧ H x = some (.ins C dx []) ∧
  Giv K CF CO H v (-1) E fun xs qs => ∀ H' b, But x H H' → H b = none → H' x = some (.ins C dx (rwF b ((qs.length : Int) - 1) (hgtV qs 0))) → H' b = some (.lst xs) → Q .non H'
def spSI (K : PySem.W.Frag) (S CF CO : Addr) : Sp := fun vs H Q E => ∃ (x dx : Addr) (v : V), vs = [.ref x, v] ∧ v ≠ .ref x ∧ H x = some (.ins S dx []) ∧
  Giv K CF CO H v 0 E fun xs qs => ∀ H' b x0 fv sv, xs[0]? = some x0 → But x H H' → H b = none → H' x = some (.ins S dx (stF b (qs.length : Int) x0 (kindS qs) (hgtV qs 1) fv sv)) → H' b = some (.lst xs) → Q .non H'
abbrev nIn : List Str := ["self", "numbers"]
theorem but_put {x : Addr} {H : Hp} {o : HO} : But x H (upd H x o) := fun b u n h => by rw [upd_ne n]; exact h
theorem Nq.but {K : PySem.W.Frag} {H H' : Hp} {x C dx : Addr} {fs : List (Str × V)} {v : V} {q : Rat} (h : Nq K H v q) (hx : H x = some (.ins C dx fs)) (s : But x H H') : Nq K H' v q := by
  obtain ⟨a, e, h⟩ := h
  refine ⟨a, e, h.imp (fun h => s _ _ (fun z => ?_) h) id⟩
  rw [z, hx] at h
  cases h
theorem Nl.but {K : PySem.W.Frag} {H H' : Hp} {x C dx : Addr} {fs : List (Str × V)} {xs : List V} {qs : List Rat} (h : Nl K H xs qs) (hx : H x = some (.ins C dx fs)) (s : But x H H') : Nl K H' xs qs := ⟨h.1, fun i y q h1 h2 => (h.2 i y q h1 h2).but hx s⟩
section
variable {P : Program} {w : World} {K : PySem.W.Frag} {mg : Str → Option Value} {base : Heap} {f fI C S CF CO o1 o0 : Addr} {fd : FuncData}
/-- from Giv to the promise of checked_numbers -/
theorem Giv.cn {H : Hp} {v : V} {fu : Int} {E : XK} {Qx : Addr → Hp → Prop} {good : List V → List Rat → Prop} (h : Giv K CF CO H v fu E good)
    (q : ∀ a xs qs H' b, v = .ref a → SqH H a xs → Nl K H xs qs → good xs qs → 2 ≤ (xs.length : Int) + fu → (xs.length : Int) + fu ≤ 24 → Same H H' → H b = none → H' b = some (.lst xs) → Qx b H') :
  ((LsV K H v false ∧ Air H CF (fs1 "InvalidFraction" "at" [.int (-1)]) E) ∨
   ∃ (a : Addr) (xs : List V) (rs : List Bool), v = .ref a ∧ SqH H a xs ∧
     (((xs.length : Int) + fu < 2 ∨ 24 < (xs.length : Int) + fu) ∧ Air H CO (fs1 "InvalidOrder" "value" [.int ((xs.length : Int) + fu)]) E ∨
      2 ≤ (xs.length : Int) + fu ∧ (xs.length : Int) + fu ≤ 24 ∧ Its K H xs rs ∧ (∀ k : Nat, badAt rs 0 = some k → Air H CF (fs1 "InvalidFraction" "at" [.int (k : Nat)]) E) ∧
        (badAt rs 0 = none → ∀ H' b, Same H H' → H b = none → H' b = some (.lst xs) → Qx b H'))) := by
  rcases h with h | ⟨a, xs, rfl, ha, h⟩
  · exact .inl h
  · rcases h with ⟨ho, air⟩ | ⟨l1, l2, h⟩
    · exact .inr ⟨a, xs, [], rfl, ha, .inl ⟨ho, air⟩⟩
    · rcases h with ⟨rs, k, hI, hb, air⟩ | ⟨qs, nx, g⟩
      · refine .inr ⟨a, xs, rs, rfl, ha, .inr ⟨l1, l2, hI, fun k' hk => ?_, fun z => ?_⟩⟩
        · rw [hb] at hk
          rw [← Option.some.inj hk]
          exact air
        · rw [hb] at z; cases z
      · refine .inr ⟨a, xs, _, rfl, ha, .inr ⟨l1, l2, nx.its, fun k' hk => ?_, fun z H' b s n e => q a xs qs H' b rfl ha nx g l1 l2 s n e⟩⟩
        rw [bad_rep] at hk
        cases hk
end
end Kx
end
section
set_option maxHeartbeats 4000000
namespace Kx
open PySem PySem.Spec PyProof.Rows L2 RZ
theorem hgtN_ex : ∀ (qs : List Rat) (f : Nat), (∃ q ∈ qs, q ≠ 0) → ∃ k, k < qs.length ∧ hgtN qs f = some (f + k)
  | [], _, h => by obtain ⟨q, hq, _⟩ := h; cases hq
  | q :: qs, f, h => by
    by_cases c : q = 0
    · obtain ⟨r, hr, nr⟩ := h
      have hr' : r ∈ qs := by
        rcases List.mem_cons.mp hr with e | e
        · exact absurd (by rw [e]; exact c) nr
        · exact e
      obtain ⟨k, hk, e⟩ := hgtN_ex qs (f + 1) ⟨r, hr', nr⟩
      refine ⟨k + 1, by rw [List.length_cons]; omega, ?_⟩
      show (if q = 0 then hgtN qs (f + 1) else some f) = _
      rw [if_pos c, e]
      congr 1
      omega
    · refine ⟨0, by rw [List.length_cons]; omega, ?_⟩
      show (if q = 0 then hgtN qs (f + 1) else some f) = _
      rw [if_neg c]
      rfl
theorem not_zero {qs : List Rat} (h : ¬ (qs.all (fun q => decide (q = 0)) = true)) : ∃ q ∈ qs, q ≠ 0 := by
  rw [List.all_eq_true] at h
  exact Classical.byContradiction fun z => h fun q hq => decide_eq_true (Classical.byContradiction fun n => z ⟨q, hq, n⟩)
theorem kind_creep {qs : List Rat} (h : kindS qs = "creep") : ∃ q ∈ qs.drop 1, q ≠ 0 := by
  unfold kindS at h
  split at h
  · split at h <;> exact absurd h (by decide)
  · split at h
    · split at h
      · exact absurd h (by decide)
      · exact not_zero (by assumption)
    · split at h <;> exact absurd h (by decide)
theorem kind_crush {qs : List Rat} (h : kindS qs = "crush") : ∃ q ∈ qs, q ≠ 0 := by
  have z : ∃ q ∈ qs.drop 1, q ≠ 0 := by
    unfold kindS at h
    split at h
    · split at h
      · exact absurd h (by decide)
      · exact not_zero (by assumption)
    · split at h
      · split at h <;> exact absurd h (by decide)
      · split at h <;> exact absurd h (by decide)
  obtain ⟨q, hq, n⟩ := z
  exact ⟨q, List.mem_of_mem_drop hq, n⟩
/-- how far an __init__ has come -/
structure Stg (K : PySem.W.Frag) (H Hk : Hp) (x S dx : Addr) (fs : List (Str × V)) (b : Addr) (xs : List V) (qs : List Rat) : Prop where
  u : But x H Hk
  hx : Hk x = some (.ins S dx fs)
  hb : Hk b = some (.lst xs)
  nx : Nl K Hk xs qs
  xb : b ≠ x
theorem Stg.put {K : PySem.W.Frag} {H Hk : Hp} {x S dx : Addr} {fs : List (Str × V)} {b : Addr} {xs : List V} {qs : List Rat} (h : Stg K H Hk x S dx fs b xs qs) (fs' : List (Str × V)) : Stg K H (upd Hk x (.ins S dx fs')) x S dx fs' b xs qs :=
  ⟨h.u.trans but_put, upd_same, by rw [upd_ne h.xb]; exact h.hb, h.nx.but h.hx but_put, h.xb⟩
theorem Stg.go {K : PySem.W.Frag} {H Hk H' : Hp} {x S dx : Addr} {fs : List (Str × V)} {b : Addr} {xs : List V} {qs : List Rat} (h : Stg K H Hk x S dx fs b xs qs) (s : Same Hk H') : Stg K H H' x S dx fs b xs qs :=
  ⟨h.u.trans (But.same s), s _ _ h.hx, s _ _ h.hb, h.nx.same s, h.xb⟩
section
variable {P : Program} {w : World} {K : PySem.W.Frag} {mg : Str → Option Value} {base : Heap} {f fI C S CF CO o1 o0 : Addr} {fd : FuncData}
theorem scSI : FnScope nIn ["self", "numbers"] (defScope C_Step_init) := ⟨rfl, rfl, rfl, by decide +kernel, rfl, by decide +kernel, by decide +kernel⟩
theorem ok_stinit (G : Fun K "__init__" "Step.__init__" C_Step_init f fd) (c : Cls K S) (nA : ∀ n ∈ stN, NoAttr K S n) (mn : mg "len" = none)
    (UN : Use P w K mg base (L2.CX P w) 5 "checked_numbers" ["numbers", "further"] (spCn K CF CO) []) (UD : Use P w K mg base CX0 2 "kind_of" ["numbers"] (spKo K) []) (UL : Use P w K mg base CX0 1 "least_place" ["numbers", "first"] (spLp K) []) :
    FnOk P w K mg base (L2.CX P w) 6 f fd ["self", "numbers"] (spSI K S CF CO) := by
  refine G.okX scSI (fun vs H Q E h => ?_) (fun cdv A outer s H vs Q E hr h => ?_)
  · obtain ⟨x, dx, v, rfl, _⟩ := h
    rfl
  obtain ⟨x, dx, v, rfl, nv, hx, hg⟩ := h
  have hr1 := hr.mono (show 1 ≤ 5 by decide)
  have hr2 := hr.mono (show 2 ≤ 5 by decide)
  have n1 := nA "_numbers" (by simp [stN])
  have n2 := nA "order" (by simp [stN])
  have n3 := nA "lead" (by simp [stN])
  have n4 := nA "kind" (by simp [stN])
  have n5 := nA "height" (by simp [stN])
  have n6 := nA "flat" (by simp [stN])
  have n7 := nA "strength" (by simp [stN])
  refine ⟨_, pss_cons (ps_fld (pv 0) (pe_use (E := E) UN hr rfl (passes_call (takes_of rfl rfl rfl rfl) (fun _ _ _ _ h => h)) (pa_cons (pv 1) (pa_cons pe_int pa_nil))) rfl)
    (pss_cons (ps_fld (pv 0) (pe_callB call_len_seq rfl mn PySem.boot_len (pa_cons (pv 1) pa_nil)) rfl)
    (pss_cons (ps_fld (pv 0) (pe_ix ix_list (pe_fld (pv 0) rfl) pe_int (fun _ _ => rfl)) rfl)
    (pss_cons (ps_fld (pv 0) (pe_use UD hr2 rfl pass0 (pa_cons (pe_fld (pv 0) rfl) pa_nil)) rfl)
    (pss_cons (ps_fld (pv 0) (pe_use UL hr1 rfl pass0 (pa_cons (pe_fld (pv 0) rfl) (pa_cons pe_int pa_nil))) rfl)
    (pss_cons (ps_fld (pv 0) pe_non rfl)
    (pss_cons (ps_fld (pv 0) pe_non rfl)
    (C8.pss_cut (ps_if (pt_cmpR op_eq (pe_fld (pv 0) rfl) pe_str (nomark _)) (pss_cons (ps_fld (pv 0) (pe_use UL hr1 rfl pass0 (pa_cons (pe_slice sl_list (pe_fld (pv 0) rfl) (po_some pe_int) po_none) (pa_cons pe_int pa_nil))) rfl)
        (pss_one (ps_fld (pv 0) (pe_ix ix_list (pe_fld (pv 0) rfl) (pe_fld (pv 0) rfl) (fun _ _ => rfl)) rfl))) pss_nil)
    (pss_one (ps_if (pt_cmpR op_eq (pe_fld (pv 0) rfl) pe_str (nomark _)) (pss_one (ps_fld (pv 0) (pe_ix ix_list (pe_fld (pv 0) rfl) (pe_op op_sub (pe_fld (pv 0) rfl) pe_int) (fun _ _ => rfl)) rfl)) pss_nil))))))))), ?_⟩
  refine ⟨_, rfl, v, 0, rfl, ?_⟩
  refine hg.cn fun a xs qs H1 b ev ha nx g l1 l2 s1 nb hb => ?_
  subst ev
  have xb : b ≠ x := fun e => by rw [e, hx] at nb; cases nb
  have xa : a ≠ x := fun e => nv (by rw [e])
  have lq : xs.length = qs.length := nx.1
  have g1 : Stg K H H1 x S dx [] b xs qs := ⟨But.same s1, s1 _ _ hx, hb, nx.same s1, xb⟩
  have ha1 := ha.same s1
  refine ⟨_, rfl, x, S, dx, _, rfl, g1.hx, c, n1, by decide, ?_⟩
  have g2 := g1.put (putF "_numbers" (.ref b) [])
  have ha2 : SqH (upd H1 x (.ins S dx (putF "_numbers" (.ref b) []))) a xs := by
    unfold SqH
    rw [upd_ne xa]
    exact ha1
  generalize upd H1 x (.ins S dx (putF "_numbers" (.ref b) [])) = H2 at g2 ha2
  refine ⟨_, rfl, a, _, rfl, ha2.imp SqL.of SqT.of, _, rfl, x, S, dx, _, rfl, g2.hx, c, n2, (by show 1 < 1000; decide), ?_⟩
  have g3 := g2.put (putF "order" (.int ((xs.length : Nat) : Int)) (putF "_numbers" (.ref b) []))
  generalize upd H2 x (.ins S dx (putF "order" (.int ((xs.length : Nat) : Int)) (putF "_numbers" (.ref b) []))) = H3 at g3
  obtain ⟨x0, e0, m0⟩ := g3.nx.get' (i := 0) (by omega)
  refine ⟨_, rfl, x, S, dx, _, _, rfl, g3.hx, c, n1, rfl, b, xs, 0, x0, rfl, rfl, SqL.of g3.hb, at_of (j := 0) rfl e0, _, rfl, x, S, dx, _, rfl, g3.hx, c, n3, (by show 2 < 1000; decide), ?_⟩
  rw [lq] at g3 ⊢
  generalize hln : (((qs.length : Nat)) : Int) = ln at g3
  have g4 := g3.put (putF "lead" x0 (putF "order" (.int ln) (putF "_numbers" (.ref b) [])))
  generalize upd H3 x (.ins S dx (putF "lead" x0 (putF "order" (.int ln) (putF "_numbers" (.ref b) [])))) = H4 at g4
  refine ⟨_, rfl, x, S, dx, _, _, rfl, g4.hx, c, n1, rfl, .ref b, qs, rfl, ⟨b, xs, rfl, g4.hb, g4.nx⟩, by omega, by omega, fun H5 s5 => ?_⟩
  have g5 := g4.go s5
  refine ⟨_, rfl, x, S, dx, _, rfl, g5.hx, c, n4, (by show 3 < 1000; decide), ?_⟩
  generalize hkd : kindS qs = kd
  have g6 := g5.put (putF "kind" (.str kd) (putF "lead" x0 (putF "order" (.int ln) (putF "_numbers" (.ref b) []))))
  generalize upd H5 x (.ins S dx (putF "kind" (.str kd) (putF "lead" x0 (putF "order" (.int ln) (putF "_numbers" (.ref b) []))))) = H6 at g6
  refine ⟨_, rfl, x, S, dx, _, _, rfl, g6.hx, c, n1, rfl, .ref b, qs, 1, rfl, ⟨b, xs, rfl, g6.hb, g6.nx⟩, fun H7 s7 => ?_⟩
  have g7 := g6.go s7
  refine ⟨_, rfl, x, S, dx, _, rfl, g7.hx, c, n5, (by show 4 < 1000; decide), ?_⟩
  generalize hhv : hgtV qs 1 = hv
  have g8 := g7.put (putF "height" hv (putF "kind" (.str kd) (putF "lead" x0 (putF "order" (.int ln) (putF "_numbers" (.ref b) [])))))
  generalize upd H7 x (.ins S dx (putF "height" hv (putF "kind" (.str kd) (putF "lead" x0 (putF "order" (.int ln) (putF "_numbers" (.ref b) [])))))) = H8 at g8
  refine ⟨_, rfl, x, S, dx, _, rfl, g8.hx, c, n6, (by show 5 < 1000; decide), ?_⟩
  have g9 := g8.put (putF "flat" .non (putF "height" hv (putF "kind" (.str kd) (putF "lead" x0 (putF "order" (.int ln) (putF "_numbers" (.ref b) []))))))
  generalize upd H8 x (.ins S dx (putF "flat" .non (putF "height" hv (putF "kind" (.str kd) (putF "lead" x0 (putF "order" (.int ln) (putF "_numbers" (.ref b) []))))))) = H9 at g9
  refine ⟨_, rfl, x, S, dx, _, rfl, g9.hx, c, n7, (by show 6 < 1000; decide), ?_⟩
  have g10 : Stg K H (upd H9 x (.ins S dx (stF b ln x0 kd hv .non .non))) x S dx (stF b ln x0 kd hv .non .non) b xs qs := g9.put _
  refine ⟨fun σ H' => σ = [some (.ref x), some (.ref a)] ∧ ∃ fv sv, Stg K H H' x S dx (stF b ln x0 kd hv fv sv) b xs qs, ?_, ?_⟩
  · change Stg K H (upd H9 x (.ins S dx (putF "strength" .non (putF "flat" .non (putF "height" hv (putF "kind" (.str kd) (putF "lead" x0 (putF "order" (.int ln) (putF "_numbers" (.ref b) [])))))))))  x S dx (stF b ln x0 kd hv .non .non) b xs qs at g10
    generalize upd H9 x (.ins S dx (putF "strength" .non (putF "flat" .non (putF "height" hv (putF "kind" (.str kd) (putF "lead" x0 (putF "order" (.int ln) (putF "_numbers" (.ref b) [])))))))) = H10 at g10
    refine ⟨_, rfl, x, S, dx, _, _, rfl, g10.hx, c, n4, rfl, rfl, _, rfl, ite2 (fun e => ?_) (fun _ => ⟨rfl, _, _, g10⟩)⟩
    have ek : kindS qs = "creep" := by rw [hkd]; exact V.str.inj (of_decide_eq_true e)
    obtain ⟨k, hk, ek2⟩ := hgtN_ex (qs.drop 1) 0 (kind_creep ek)
    rw [List.length_drop] at hk
    refine ⟨_, rfl, x, S, dx, _, _, rfl, g10.hx, c, n1, rfl, 1, rfl, b, _, rfl, SqL.of g10.hb, fun p np => ?_⟩
    have ec : cutV xs (some 1) none = xs.drop 1 := cut_drop xs 1
    rw [ec]
    have s11 := new_same np (.lst (xs.drop 1))
    have g11 := g10.go s11
    refine ⟨.ref p, qs.drop 1, 1, rfl, ⟨p, _, rfl, upd_same, g11.nx.drop 1⟩, fun H12 s12 => ?_⟩
    have g12 := g11.go s12
    have ev : hgtV (qs.drop 1) 1 = .int (1 + (k : Nat)) := by
      unfold hgtV
      rw [ek2, Nat.zero_add]
    rw [ev]
    refine ⟨_, rfl, x, S, dx, _, rfl, g12.hx, c, n6, (by show 7 < 1000; decide), ?_⟩
    have g13 : Stg K H (upd H12 x (.ins S dx (putF "flat" (.int (1 + (k : Nat))) (stF b ln x0 kd hv .non .non)))) x S dx (stF b ln x0 kd hv (.int (1 + (k : Nat))) .non) b xs qs := g12.put _
    generalize upd H12 x (.ins S dx (putF "flat" (.int (1 + (k : Nat))) (stF b ln x0 kd hv .non .non))) = H13 at g13
    have e3 := List.getElem?_eq_getElem (l := xs) (i := 1 + k) (by omega)
    refine ⟨_, rfl, x, S, dx, _, _, rfl, g13.hx, c, n1, rfl, _, rfl, x, S, dx, _, _, rfl, g13.hx, c, n6, rfl, b, xs, _, _, rfl, rfl, SqL.of g13.hb, at_of (j := 1 + k) (by omega) e3, _, rfl, x, S, dx, _, rfl, g13.hx, c, n7, (by show 7 < 1000; decide), ?_⟩
    exact ⟨rfl, _, _, g13.put _⟩
  · rintro σ H10 ⟨rfl, fv, sv, g10⟩
    have fin : ∀ H' fv sv, Stg K H H' x S dx (stF b ln x0 kd hv fv sv) b xs qs → Q .non H' := fun H' fv sv z => by
      refine g H' b x0 fv sv e0 z.u nb ?_ z.hb
      rw [hln, hkd, hhv]
      exact z.hx
    refine ⟨_, rfl, x, S, dx, _, _, rfl, g10.hx, c, n4, rfl, rfl, _, rfl, ite2 (fun e => ?_) (fun _ => fin _ _ _ g10)⟩
    have ek : kindS qs = "crush" := by rw [hkd]; exact V.str.inj (of_decide_eq_true e)
    obtain ⟨k, hk, ek2⟩ := hgtN_ex qs 0 (kind_crush ek)
    have ev : hv = .int (1 + (k : Nat)) := by
      rw [← hhv]
      unfold hgtV
      rw [ek2, Nat.zero_add]
    have e3 := List.getElem?_eq_getElem (l := xs) (i := k) (by omega)
    refine ⟨_, rfl, x, S, dx, _, _, rfl, g10.hx, c, n1, rfl, _, rfl, x, S, dx, _, _, rfl, g10.hx, c, n5, rfl, 1 + (k : Nat), 1, ev, rfl, b, xs, _, _, rfl, rfl, SqL.of g10.hb, at_of (j := k) (by omega) e3, _, rfl, x, S, dx, _, rfl, g10.hx, c, n7, (by show 7 < 1000; decide), ?_⟩
    exact fin _ fv _ (g10.put _)
end
end Kx
end
section
set_option maxHeartbeats 4000000
namespace Kx
open PySem PySem.Spec PyProof.Rows L2
/-! ### operators of own classes -/
theorem ep_cmp {X : Cx} {pins : List (Addr × Obj)} {σ : L2.St} {Q : VK} {u : Value} {s' : Shared} (h : EP X pins σ Q u s') : PySem.W.CmpBack (EP X pins σ Q) u s' := by
  obtain ⟨v, H', I, r, q⟩ := h
  have key : u ≠ .notImplemented := by
    rintro rfl
    cases v <;> first | (obtain ⟨_, z⟩ := r; cases z) | cases r
  have fin : EP X pins σ Q u s' := ⟨v, H', I, r, q⟩
  cases u <;> first | exact fin | exact absurd rfl key
/-- an operator's method of a class -/
structure OpM (P : Program) (w : World) (K : PySem.W.Frag) (mg : Str → Option Value) (base : Heap) (CX : CXT) (k : Nat) (C : Addr) (nm : Str) (sp : Sp) : Prop where
  ex : ∃ (g : Addr) (fd : FuncData) (ps : List Str), PySem.W.findIn K (.ref C) nm = some (some (.ref g)) ∧ PySem.W.isFn K (.ref g) = true ∧ FnOk P w K mg base CX k g fd ps sp ∧ Binds K fd ps []
  sf : PySem.W.selfFirst K C = true
def rBin (C : Addr) (sp : Sp) (E : XK) : R2 := fun x y H Q => ∃ (a b dx dy : Addr) (fs gs : List (Str × V)), x = .ref a ∧ y = .ref b ∧ H a = some (.ins C dx fs) ∧ H b = some (.ins C dy gs) ∧ sp [x, y] H Q E
section
variable {X : Cx} {CX : CXT} {k : Nat} {C : Addr} {sp : Sp} {E : XK}
theorem op_bin {op : Operator} {nm : Str} (O : OpM X.prog X.w X.K X.mg X.base CX k C nm sp) (hn : PySem.dunder op.info.2 = nm) (hr : Room k X.A) (hx : Passes CX X E) : OpR X (binaryOp op) (rBin C sp E) := by
  intro pins s σ H x y v u Q I rx ry h
  obtain ⟨a, b, dx, dy, fs, gs, rfl, rfl, ha, hb', hsp⟩ := h
  obtain ⟨g, fd, ps, h1, h2, F, hb⟩ := O.ex
  cases rx
  cases ry
  obtain ⟨mA, J, _⟩ := ins_get I.hok ha
  obtain ⟨mB, J', _⟩ := ins_get I.hok hb'
  obtain ⟨od, J, _⟩ := J.look
  obtain ⟨od', J', _⟩ := J'.look
  obtain ⟨m, hF⟩ := I.fr
  refine PySem.W.binop_K (op := op) hF I.ok.mod.kin J J'.type O.sf (by rw [hn]; exact h1) h2 ?_
  exact wpAny_mono (run_fn (us := [.ref a, .ref b]) (vs := [.ref a, .ref b]) F hr hb .nil hx I (.cons rfl (.cons rfl .nil)) (by rw [List.append_nil]; exact hsp)) (fun r s' hq => ep_cmp hq) fun _ _ z => z
def rUnO (C : Addr) (sp : Sp) (E : XK) : V → Hp → VK → Prop := fun x H Q => ∃ (a dx : Addr) (fs : List (Str × V)), x = .ref a ∧ H a = some (.ins C dx fs) ∧ sp [x] H Q E
theorem un_own (O : OpM X.prog X.w X.K X.mg X.base CX k C "__neg__" sp) (hr : Room k X.A) (hx : Passes CX X E) : UnR X (unaryOp .USub) (rUnO C sp E) := by
  intro pins s σ H x v Q I rx h
  obtain ⟨a, dx, fs, rfl, ha, hsp⟩ := h
  obtain ⟨g, fd, ps, h1, h2, F, hb⟩ := O.ex
  cases rx
  obtain ⟨mA, J, _⟩ := ins_get I.hok ha
  obtain ⟨od, J, _⟩ := J.look
  obtain ⟨m, hF⟩ := I.fr
  refine PySem.W.ksp_neg hF I.ok.mod.kin J h1 h2 ?_
  exact run_fn (us := [.ref a]) (vs := [.ref a]) F hr hb .nil hx I (.cons rfl .nil) (by rw [List.append_nil]; exact hsp)
/-- ==, the left one of the class -/
def rEqO (K : PySem.W.Frag) (C : Addr) (sp : Sp) (E : XK) : R2 := fun x y H Q => ∃ (a dx : Addr) (fs : List (Str × V)) (t : Value), x = .ref a ∧ H a = some (.ins C dx fs) ∧ TyX K H y t ∧ PySem.W.notFirst K C t = true ∧ sp [x, y] H Q E
theorem op_eqO (O : OpM X.prog X.w X.K X.mg X.base CX k C "__eq__" sp) (hr : Room k X.A) (hx : Passes CX X E) : OpR X (compareOp .Eq) (rEqO X.K C sp E) := by
  intro pins s σ H x y v u Q I rx ry h
  obtain ⟨a, dx, fs, t, rfl, ha, ty, nf, hsp⟩ := h
  obtain ⟨g, fd, ps, h1, h2, F, hb⟩ := O.ex
  cases rx
  obtain ⟨mA, J, _⟩ := ins_get I.hok ha
  obtain ⟨od, J, _⟩ := J.look
  obtain ⟨m, hF⟩ := I.fr
  obtain ⟨Pp, Z, pp, _⟩ := kit_of I ry ty
  show wpAny (model X.prog X.w) X.A (richCompare .Eq (.ref a) u) (EP X pins σ Q) X.xe s
  refine PySem.W.cmp_K (op := .Eq) (tb := t) hr.units0 hF I.ok.mod.kin J (Z.ty _ _ I.kIn pp) nf h1 h2 ?_
  exact wpAny_mono (run_fn (us := [.ref a, u]) (vs := [.ref a, y]) F hr hb .nil hx I (.cons rfl (.cons ry .nil)) (by rw [List.append_nil]; exact hsp)) (fun r s' hq => ep_cmp hq) fun _ _ z => z
/-- len(x), x of the class -/
def rLenO (C : Addr) (sp : Sp) (E : XK) : List V → Hp → VK → Prop := fun xs H Q => ∃ (a dx : Addr) (fs : List (Str × V)), xs = [.ref a] ∧ H a = some (.ins C dx fs) ∧ sp [.ref a] H (fun v H' => ∃ n : Nat, v = .int (n : Nat) ∧ n < 2 ^ 62 ∧ Q (.int (n : Nat)) H') E
theorem call_lenO (O : OpM X.prog X.w X.K X.mg X.base CX k C "__len__" sp) (hr : Room (k + 1) X.A) (hx : Passes CX X E) : CallR X (.builtin "len") (rLenO C sp E) := by
  intro pins s σ H xs us Q I r h
  obtain ⟨a, dx, fs, rfl, ha, hsp⟩ := h
  obtain ⟨g, fd, ps, h1, h2, F, hb⟩ := O.ex
  obtain rfl : us = [.ref a] := Vals.ref1 r
  obtain ⟨mA, J, _⟩ := ins_get I.hok ha
  obtain ⟨od, J, _⟩ := J.look
  obtain ⟨m, hF⟩ := I.fr
  refine PySem.W.len_K hF I.ok.mod.kin J h1 h2 ?_
  have hl := F.len _ _ _ _ hsp
  refine wpAny_call (codeAny_mono (F.run X.A.in1 X.stack s H ⟨[.ref a], []⟩ [.ref a] [.ref a] _ E hr.in1 I.env0.in1 (by
    have := hb s [.ref a] I.kIn (by simpa using hl)
    simpa using this) (.cons rfl .nil) hsp) fun r s' hq => ?_)
  cases r with
  | error e => exact hx pins σ H s e s' I hq
  | ok fl =>
    cases fl with
    | ret w =>
      obtain ⟨z, H', I', rz, n, ez, nb, q⟩ := I.after hq
      subst ez
      obtain ⟨t, rfl⟩ := rz
      exact ⟨⟨by omega, by omega⟩, .int _, H', I'.tok _, ⟨_, rfl⟩, q⟩
    | next => exact False.elim hq
    | brk => exact False.elim hq
    | cont => exact False.elim hq
end
/-! ### methods as they are used -/
structure MUse (P : Program) (w : World) (K : PySem.W.Frag) (mg : Str → Option Value) (base : Heap) (CX : CXT) (k : Nat) (C : Addr) (m : Str) (ps : List Str) (sp : Sp) (kws : List (List Str)) : Prop where
  ex : ∃ (g : Addr) (fd : FuncData), Meth K C m g ∧ FnOk P w K mg base CX k g fd ps sp ∧ Binds K fd ps [] ∧ ∀ ks ∈ kws, KBn K fd ps 1 ks appB appA
  c : Cls K C
section
variable {X : Cx} {CX : CXT} {k : Nat} {C : Addr} {m : Str} {ps ks : List Str} {sp : Sp} {E : XK} {kl : List (List Str)} {o e : Expr} {es : List Expr} {ta : TE} {t tk : TA} {apos pos : Pos} {kws : List Keyword} {pl : Sem Bool}
theorem pe_mu (U : MUse X.prog X.w X.K X.mg X.base CX k C m ps sp kl) (he : PE X o ta) (hr : Room k X.A) (hx : Passes CX X E) (ha : PA X (e :: es) t)
    (hst : starEach (e :: es) X.env = (false, eval e X.env) :: starEach es X.env := by rfl) (hpl : (backTo pos (starEach es X.env)).any (·.1) = false := by rfl)
    (ht : eval (.Call (.Attribute o m apos) (e :: es) [] pos) X.env = (do
      let ov ← eval o X.env
      standAt apos.atName
      let (f, first) ← holding [ov] (getMethod ov m pl)
      callWith pos f first (backTo pos (starEach (e :: es) X.env)) (backToKw pos (keywordEach [] X.env))) := by rfl) :
    PE X (.Call (.Attribute o m apos) (e :: es) [] pos) (tMeth C m sp [] E ta t) := by
  obtain ⟨g, fd, hm, F, hb, _⟩ := U.ex
  exact pe_meth (pl := pl) he U.c hm F hr hb .nil hx ha hst hpl ht
theorem pe_mu0 (U : MUse X.prog X.w X.K X.mg X.base CX k C m ps sp kl) (he : PE X o ta) (hr : Room k X.A) (hx : Passes CX X E)
    (ht : eval (.Call (.Attribute o m apos) [] [] pos) X.env = (do
      let ov ← eval o X.env
      standAt apos.atName
      let (f, first) ← holding [ov] (getMethod ov m pl)
      callWith pos f first (backTo pos (starEach [] X.env)) (backToKw pos (keywordEach [] X.env))) := by rfl) :
    PE X (.Call (.Attribute o m apos) [] [] pos) (tMeth C m sp [] E ta tNil) := by
  obtain ⟨g, fd, hm, F, hb, _⟩ := U.ex
  exact pe_meth0 (pl := pl) he U.c hm F hr hb .nil hx ht
/-- o.m(k = v, ..), keywords alone -/
def tMethR (C : Addr) (m : Str) (n : Nat) (sp : Sp) (E : XK) (ta : TE) (tk : TA) : TE := fun σ H Q => ta σ H fun x H1 => ∃ a dx fs, x = .ref a ∧ H1 a = some (.ins C dx fs) ∧ fs.lookup m = none ∧ tk σ H1 fun zs H2 => zs.length = n ∧ sp (x :: zs) H2 Q E
theorem pe_muR (U : MUse X.prog X.w X.K X.mg X.base CX k C m ps sp kl) (he : PE X o ta) (hr : Room k X.A) (hx : Passes CX X E) (hkw : PK X kws tk) (hin : ks ∈ kl)
    (hall : (backToKw pos (keywordEach kws X.env)).all (·.1.isSome) = true := by rfl) (hks : (backToKw pos (keywordEach kws X.env)).filterMap (·.1) = ks := by rfl)
    (hpl : ((backTo pos (starEach [] X.env)).any (·.1) || (backToKw pos (keywordEach kws X.env)).any (·.1.isNone)) = false := by rfl)
    (ht : eval (.Call (.Attribute o m apos) [] kws pos) X.env = (do
      let ov ← eval o X.env
      standAt apos.atName
      let (f, first) ← holding [ov] (getMethod ov m pl)
      callWith pos f first (backTo pos (starEach [] X.env)) (backToKw pos (keywordEach kws X.env))) := by rfl) :
    PE X (.Call (.Attribute o m apos) [] kws pos) (tMethR C m ks.length sp E ta tk) := by
  obtain ⟨g, fd, hm, F, _, hK⟩ := U.ex
  have hb := hK ks hin
  refine ⟨fun pins s σ H Q I h => ?_⟩
  refine PySem.W.methodCall_KW (pl := pl) (thn (he.run pins s σ H _ I h) fun u s1 ⟨x, H1, I1, rx, a, dx, fs, ex, ea, l, q⟩ => ?_) ht
  subst ex
  obtain rfl : u = Value.ref a := rx
  refine getmeth_ok I1 ea U.c hm l ?_
  refine PySem.W.callWith_KW0 (first := [.ref a]) (h₀ := X.base) I.ok.mod.kin hm.kp hall ?_ hpl
  refine thn (hkw.run pos pins s1 σ H1 _ I1 q) fun ws s2 ⟨zs, H2, I2, rz, l2, q2⟩ => ⟨I2.kIn, ?_⟩
  rw [hks]
  exact run_fnN (us := [.ref a]) (vs := [.ref a]) F hr hb hx I2 (.cons rfl .nil) rz rfl l2 q2
end
structure CSta (K : PySem.W.Frag) (C : Addr) (mc : Value) (m : Str) (p g : Addr) : Prop where
  at_ : PySem.W.findCls K (.ref C) mc m = some (.get (.builtin "staticmethod.__get__") (.ref p) .none (.ref C))
  rc : ∃ rest, PySem.W.recIn K p "staticmethod" = some (.ref g :: rest)
  kp : PySem.W.keepIn K (.ref g) = true
def tStat (C : Addr) (sp : Sp) (E : XK) (ta : TE) (t : TA) : TE := fun σ H Q => ta σ H fun x H1 => x = .ref C ∧ t σ H1 fun vs H2 => sp vs H2 Q E
section
variable {X : Cx} {CX : CXT} {k : Nat} {C p g : Addr} {mc : Value} {fd : FuncData} {ps : List Str} {sp : Sp} {E : XK} {o e : Expr} {es : List Expr} {m : Str} {pos apos : Pos} {ta : TE} {t : TA} {pl : Sem Bool}
theorem pe_static (he : PE X o ta) (r : ClX.CRead X.K C mc) (c : CSta X.K C mc m p g) (F : FnOk X.prog X.w X.K X.mg X.base CX k g fd ps sp) (hr : Room k X.A) (hb : Binds X.K fd ps []) (hx : Passes CX X E) (ha : PA X (e :: es) t)
    (hst : starEach (e :: es) X.env = (false, eval e X.env) :: starEach es X.env := by rfl) (hpl : (backTo pos (starEach es X.env)).any (·.1) = false := by rfl)
    (ht : eval (.Call (.Attribute o m apos) (e :: es) [] pos) X.env = (do
      let ov ← eval o X.env
      standAt apos.atName
      let (f, first) ← holding [ov] (getMethod ov m pl)
      callWith pos f first (backTo pos (starEach (e :: es) X.env)) (backToKw pos (keywordEach [] X.env))) := by rfl) :
    PE X (.Call (.Attribute o m apos) (e :: es) [] pos) (tStat C sp E ta t) := by
  refine ⟨fun pins s σ H Q I h => ?_⟩
  refine PySem.W.methodCall_KW (pl := pl) (thn (he.run pins s σ H _ I h) fun u s1 ⟨x, H1, I1, rx, ex, q⟩ => ?_) ht
  subst ex
  obtain rfl : u = Value.ref C := rx
  obtain ⟨rest, hp⟩ := c.rc
  refine PySem.W.method_cls I1.kIn r.ga (PySem.W.cls_bind I1.kIn r.rd c.at_ (wpAny_call (PySem.W.sm_get (s := { s1 with toks := s1.toks + 1 }) I1.kIn hp (PySem.W.handed_on rfl ?_))))
  have I2 : Inv X pins σ H1 { s1 with toks := s1.toks + 1 } := I1.tok _
  refine PySem.W.callWith_K (h₀ := X.base) I2.ok.mod.kin c.kp (thn (ha.run pos pins _ σ H1 _ I2 q) fun us s3 ⟨vs, H2, I3, rv, q2⟩ => ⟨I3.kIn, ?_⟩) hst hpl
  exact run_fn F hr hb .nil hx I3 rv (by rw [List.append_nil]; exact q2)
end
/-- C.m(k = v, ..) of a staticmethod, keywords alone -/
def tStatR (C : Addr) (n : Nat) (sp : Sp) (E : XK) (ta : TE) (t : TA) : TE := fun σ H Q => ta σ H fun x H1 => x = .ref C ∧ t σ H1 fun zs H2 => zs.length = n ∧ sp zs.reverse H2 Q E
section
variable {X : Cx} {CX : CXT} {k : Nat} {C p g : Addr} {mc : Value} {fd : FuncData} {ps ks : List Str} {sp : Sp} {E : XK} {o : Expr} {m : Str} {pos apos : Pos} {ta : TE} {tk : TA} {pl : Sem Bool} {kws : List Keyword}
theorem pe_staticR (he : PE X o ta) (r : ClX.CRead X.K C mc) (c : CSta X.K C mc m p g) (F : FnOk X.prog X.w X.K X.mg X.base CX k g fd ps sp) (hr : Room k X.A) (hb : KBn X.K fd ps 0 ks revB revA) (hx : Passes CX X E) (hkw : PK X kws tk)
    (hall : (backToKw pos (keywordEach kws X.env)).all (·.1.isSome) = true := by rfl) (hks : (backToKw pos (keywordEach kws X.env)).filterMap (·.1) = ks := by rfl)
    (hpl : ((backTo pos (starEach [] X.env)).any (·.1) || (backToKw pos (keywordEach kws X.env)).any (·.1.isNone)) = false := by rfl)
    (ht : eval (.Call (.Attribute o m apos) [] kws pos) X.env = (do
      let ov ← eval o X.env
      standAt apos.atName
      let (f, first) ← holding [ov] (getMethod ov m pl)
      callWith pos f first (backTo pos (starEach [] X.env)) (backToKw pos (keywordEach kws X.env))) := by rfl) :
    PE X (.Call (.Attribute o m apos) [] kws pos) (tStatR C ks.length sp E ta tk) := by
  refine ⟨fun pins s σ H Q I h => ?_⟩
  refine PySem.W.methodCall_KW (pl := pl) (thn (he.run pins s σ H _ I h) fun u s1 ⟨x, H1, I1, rx, ex, q⟩ => ?_) ht
  subst ex
  obtain rfl : u = Value.ref C := rx
  obtain ⟨rest, hp⟩ := c.rc
  refine PySem.W.method_cls I1.kIn r.ga (PySem.W.cls_bind I1.kIn r.rd c.at_ (wpAny_call (PySem.W.sm_get (s := { s1 with toks := s1.toks + 1 }) I1.kIn hp (PySem.W.handed_on rfl ?_))))
  have I2 : Inv X pins σ H1 { s1 with toks := s1.toks + 1 } := I1.tok _
  refine PySem.W.callWith_KW0 (h₀ := X.base) I2.ok.mod.kin c.kp hall ?_ hpl
  refine thn (hkw.run pos pins _ σ H1 _ I2 q) fun ws s3 ⟨zs, H2, I3, rz, l2, q2⟩ => ⟨I3.kIn, ?_⟩
  rw [hks]
  exact run_fnN (us := []) (vs := []) F hr hb hx I3 .nil rz rfl l2 q2
end
end Kx
end
section
set_option maxHeartbeats 4000000
namespace Kx
open PySem PySem.Spec PyProof.Rows L2 RZ
/-! ### lists of numbers as data -/
def datL (qs : List Rat) : PyData := .list (qs.map tupQ)
theorem dpAll : ∀ {K : PySem.W.Frag} {H : Hp} {xs : List V} {qs : List Rat}, Nl K H xs qs → DpAll K H xs (qs.map tupQ)
  | _, _, [], [], _ => .nil
  | _, _, [], _ :: _, h => by cases h.1
  | _, _, _ :: _, [], h => by cases h.1
  | _, _, x :: xs, q :: qs, h => .cons (h.2 0 x q rfl rfl).dp (dpAll h.tail)
theorem Nl.dp {K : PySem.W.Frag} {H : Hp} {b : Addr} {xs : List V} {qs : List Rat} (h : Nl K H xs qs) (e : H b = some (.lst xs)) : Dp K H (.ref b) (datL qs) := .lst (SqL.of e) (dpAll h)
theorem eqvA_num : ∀ qs rs : List Rat, PyData.eqvAll (qs.map tupQ) (rs.map tupQ) = decide (qs = rs)
  | [], [] => rfl
  | [], _ :: _ => by simp [PyData.eqvAll]
  | _ :: _, [] => by simp [PyData.eqvAll]
  | q :: qs, r :: rs => by
    show (PyData.eqv (tupQ q) (tupQ r) && PyData.eqvAll (qs.map tupQ) (rs.map tupQ)) = _
    rw [eqv_num, eqvA_num qs rs]
    by_cases c : q = r
    · by_cases d : qs = rs
      · simp [c, d]
      · simp [c, d]
    · simp [c]
theorem eqv_list (qs rs : List Rat) : PyData.eqv (datL qs) (datL rs) = decide (qs = rs) := by
  show PyData.eqvAll _ _ = _
  exact eqvA_num qs rs
theorem lay_num : ∀ qs : List Rat, PyData.canLayAll0 (qs.map tupQ) = true ∧ PyData.depthAll (qs.map tupQ) ≤ 1
  | [] => ⟨rfl, by decide⟩
  | q :: qs => by
    obtain ⟨h1, h2⟩ := lay_num qs
    constructor
    · show (PyData.canLay0 (tupQ q) && PyData.canLayAll0 (qs.map tupQ)) = true
      rw [h1]
      rfl
    · show max (PyData.depth (tupQ q)) (PyData.depthAll (qs.map tupQ)) ≤ 1
      have : PyData.depth (tupQ q) = 1 := rfl
      omega
theorem shaped_list (qs : List Rat) : SeqAt.shaped (datL qs) = true := by
  obtain ⟨h1, h2⟩ := lay_num qs
  unfold SeqAt.shaped
  rw [Bool.and_eq_true]
  refine ⟨h1, decide_eq_true ?_⟩
  show PyData.depthAll (qs.map tupQ) + 1 ≤ 64
  omega
end Kx
end
section
set_option maxHeartbeats 4000000
namespace Kx
open PySem PySem.Spec PyProof.Rows L2 RZ
variable {nb : Nat}
theorem But.free {B p a : Addr} {H H' : Hp} (u : But B H H') (b : Bag nb H' B p) (h : H' a = none) : H a = none := by
  obtain ⟨_, _, _, _, _, h1, _⟩ := b.ex
  cases e : H a with
  | none => rfl
  | some o =>
    have z := u a o (fun y => by rw [y, h1] at h; cases h) e
    rw [h] at z
    cases z
theorem Bag.put {H : Hp} {B p a : Addr} {o : HO} (b : Bag nb H B p) (h : H a = none) : Bag nb (upd H a o) B p := b.same (new_same h o)
theorem Bag.at {H : Hp} {B p : Addr} (b : Bag nb H B p) {a : Addr} (h : H a = none) : a ≠ B ∧ a ≠ p := by
  obtain ⟨_, _, _, _, _, h1, h2, _⟩ := b.ex
  refine ⟨fun e => ?_, fun e => ?_⟩
  · rw [e, h1] at h
    cases h
  · rw [e, h2] at h
    cases h
/-- all but the bag and the tables stand -/
def Go (B : Addr) (H H' : Hp) : Prop := ∀ b o, b ≠ B → (∀ ps, o ≠ .tbl ps) → H b = some o → H' b = some o
theorem Go.of {B : Addr} {H H' : Hp} (h : But B H H') : Go B H H' := fun b o n _ e => h b o n e
theorem Go.ext {B : Addr} {H H' : Hp} (h : LamX.ExtN H H') : Go B H H' := fun b o _ t e => h b o e t
theorem Go.trans {B : Addr} {H H1 H2 : Hp} (a : Go B H H1) (b : Go B H1 H2) : Go B H H2 := fun x o n t h => b x o n t (a x o n t h)
theorem Bag.ext {H H' : Hp} {B p : Addr} (b : Bag nb H B p) (h : LamX.ExtN H H') : Bag nb H' B p := by
  obtain ⟨ns, i, r, sd, c, h1, h2, h3⟩ := b.ex
  exact ⟨ns, i, r, sd, c, h _ _ h1 (fun ps z => by cases z), h _ _ h2 (fun ps z => by cases z), h3⟩
theorem tabs_but {T : List (Addr × Str)} {H H' : Hp} {B p : Addr} (t : LamX.Tabs T H) (b : Bag nb H B p) (u : But B H H') : LamX.Tabs T H' := by
  obtain ⟨ns, i, r, sd, c, h1, _⟩ := b.ex
  intro q hq
  obtain ⟨ps, e1, e2, e3⟩ := t q hq
  refine ⟨ps, u _ _ (fun z => ?_) e1, e2, fun pos cv hc => ?_⟩
  · rw [z, h1] at e1
    cases e1
  · obtain ⟨c0, z1, z2⟩ := e3 pos cv hc
    refine ⟨c0, z1, u _ _ (fun z => ?_) z2⟩
    rw [z, h1] at z2
    cases z2
theorem Go.same {B : Addr} {H H' : Hp} (h : Same H H') : Go B H H' := Go.of (But.same h)
theorem Go.refl {B : Addr} {H : Hp} : Go B H H := fun _ _ _ _ h => h
section
variable {K : PySem.W.Frag} {H H' : Hp} {B p : Addr}
theorem Nq.go {v : V} {q : Rat} (h : Nq K H v q) (b : Bag nb H B p) (s : Go B H H') : Nq K H' v q := by
  obtain ⟨a, e, h⟩ := h
  obtain ⟨ns, i, r, sd, c, hb, _⟩ := b.ex
  refine ⟨a, e, h.imp (fun h => s _ _ (fun z => ?_) (fun ps z => by cases z) h) id⟩
  rw [z, hb] at h
  cases h
theorem Nl.go {xs : List V} {qs : List Rat} (h : Nl K H xs qs) (b : Bag nb H B p) (s : Go B H H') : Nl K H' xs qs := ⟨h.1, fun i x q h1 h2 => (h.2 i x q h1 h2).go b s⟩
/-- a list of numbers is not the bag -/
theorem Nl.ne {xs : List V} {qs : List Rat} {a : Addr} (h : Nl K H xs qs) (l : 2 ≤ qs.length) (ha : H a = some (.lst xs)) (b : Bag nb H B p) : a ≠ B := by
  rintro rfl
  obtain ⟨ns, i, r, sd, c, hb, _⟩ := b.ex
  rw [ha] at hb
  have e : xs = bagL p i r sd c := by
    have := Option.some.inj hb
    exact HO.lst.inj this
  obtain ⟨x, ex, n⟩ := h.get' (i := 1) (by omega)
  rw [e] at ex
  have e2 : V.int i = x := Option.some.inj (show some (V.int i) = some x from ex)
  obtain ⟨a', e3, _⟩ := n
  rw [← e2] at e3
  cases e3
theorem Ls.go {v : V} {qs : List Rat} (h : Ls K H v qs) (l : 2 ≤ qs.length) (b : Bag nb H B p) (s : Go B H H') : Ls K H' v qs := by
  obtain ⟨a, xs, e, h1, h2⟩ := h
  exact ⟨a, xs, e, s _ _ (h2.ne l h1 b) (fun ps z => by cases z) h1, h2.go b s⟩
theorem ins_go {x C dx : Addr} {fs : List (Str × V)} (h : H x = some (.ins C dx fs)) (b : Bag nb H B p) (s : Go B H H') : H' x = some (.ins C dx fs) := by
  obtain ⟨ns, i, r, sd, c, hb, _⟩ := b.ex
  refine s _ _ (fun z => ?_) (fun ps z => by cases z) h
  rw [z, hb] at h
  cases h
theorem tup_go {x : Addr} {xs : List V} (h : H x = some (.tup xs)) (b : Bag nb H B p) (s : Go B H H') : H' x = some (.tup xs) := by
  obtain ⟨ns, i, r, sd, c, hb, _⟩ := b.ex
  refine s _ _ (fun z => ?_) (fun ps z => by cases z) h
  rw [z, hb] at h
  cases h
theorem lst_go {x : Addr} {xs : List V} (h : H x = some (.lst xs)) (n : xs.length ≠ 5) (b : Bag nb H B p) (s : Go B H H') : H' x = some (.lst xs) := by
  obtain ⟨ns, i, r, sd, c, hb, _⟩ := b.ex
  refine s _ _ (fun z => ?_) (fun ps z => by cases z) h
  rw [z, hb] at h
  have e := HO.lst.inj (Option.some.inj h)
  rw [← e] at n
  exact n rfl
theorem StAt.go {S : Addr} {v : V} {qs : List Rat} (h : StAt K S H v qs) (b : Bag nb H B p) (s : Go B H H') : StAt K S H' v qs := by
  obtain ⟨x, dx, c, xs, x0, fv, sv, e, h1, h2, h3, h4, h5, h6⟩ := h
  exact ⟨x, dx, c, xs, x0, fv, sv, e, ins_go h1 b s, s _ _ (h3.ne (by omega) h2 b) (fun ps z => by cases z) h2, h3.go b s, h4, h5, h6⟩
theorem Nq.ext {v : V} {q : Rat} (h : Nq K H v q) (s : LamX.ExtN H H') : Nq K H' v q := by
  obtain ⟨a, e, n⟩ := h
  exact ⟨a, e, n.imp (fun n => s _ _ n (fun ps z => by cases z)) id⟩
theorem Nl.ext {xs : List V} {qs : List Rat} (h : Nl K H xs qs) (s : LamX.ExtN H H') : Nl K H' xs qs := ⟨h.1, fun i y q a b => (h.2 i y q a b).ext s⟩
theorem Ls.ext {v : V} {qs : List Rat} (h : Ls K H v qs) (s : LamX.ExtN H H') : Ls K H' v qs := by
  obtain ⟨a, xs, e, h1, h2⟩ := h
  exact ⟨a, xs, e, s _ _ h1 (fun ps z => by cases z), h2.ext s⟩
end
end Kx
end
section
set_option maxHeartbeats 4000000
namespace Kx
open PySem PySem.Spec PyProof.Rows L2 RZ
/-- the flat of a step -/
def flS (qs : List Rat) : V := if kindS qs = "creep" then hgtV (qs.drop 1) 1 else .non
theorem flS_yes {qs : List Rat} (h : kindS qs = "creep") : flS qs = hgtV (qs.drop 1) 1 := if_pos h
theorem flS_no {qs : List Rat} (h : kindS qs ≠ "creep") : flS qs = .non := if_neg h
/-- where its strength stands -/
def strI (qs : List Rat) : Option Nat := if kindS qs = "creep" then (hgtN (qs.drop 1) 0).map (1 + ·) else if kindS qs = "crush" then hgtN qs 0 else none
theorem strI_creep {qs : List Rat} (h : kindS qs = "creep") : strI qs = (hgtN (qs.drop 1) 0).map (1 + ·) := if_pos h
theorem strI_crush {qs : List Rat} (h : kindS qs = "crush") : strI qs = hgtN qs 0 := by
  unfold strI
  rw [if_neg (by rw [h]; decide), if_pos h]
theorem strI_no {qs : List Rat} (h : kindS qs ≠ "creep") (h2 : kindS qs ≠ "crush") : strI qs = none := by
  unfold strI
  rw [if_neg h, if_neg h2]
def StrV (K : PySem.W.Frag) (H : Hp) (sv : V) (qs : List Rat) : Prop := match strI qs with
  | some i => ∃ r, qs[i]? = some r ∧ Nq K H sv r
  | none => sv = .non
/-- Step.__init__, with flat and strength told -/
def spSIF (K : PySem.W.Frag) (S CF CO : Addr) : Sp := fun vs H Q E => ∃ (x dx : Addr) (v : V), vs = [.ref x, v] ∧ v ≠ .ref x ∧ H x = some (.ins S dx []) ∧
  Giv K CF CO H v 0 E fun xs qs => ∀ H' b x0 fv sv, xs[0]? = some x0 → But x H H' → H b = none → H' x = some (.ins S dx (stF b (qs.length : Int) x0 (kindS qs) (hgtV qs 1) fv sv)) → H' b = some (.lst xs) → fv = flS qs → StrV K H' sv qs → Q .non H'
section
variable {P : Program} {w : World} {K : PySem.W.Frag} {mg : Str → Option Value} {base : Heap} {f fI C S CF CO o1 o0 : Addr} {fd : FuncData}
theorem ok_stinitF (G : Fun K "__init__" "Step.__init__" C_Step_init f fd) (c : Cls K S) (nA : ∀ n ∈ stN, NoAttr K S n) (mn : mg "len" = none)
    (UN : Use P w K mg base (L2.CX P w) 5 "checked_numbers" ["numbers", "further"] (spCn K CF CO) []) (UD : Use P w K mg base CX0 2 "kind_of" ["numbers"] (spKo K) []) (UL : Use P w K mg base CX0 1 "least_place" ["numbers", "first"] (spLp K) []) :
    FnOk P w K mg base (L2.CX P w) 6 f fd ["self", "numbers"] (spSIF K S CF CO) := by
  refine G.okX scSI (fun vs H Q E h => ?_) (fun cdv A outer s H vs Q E hr h => ?_)
  · obtain ⟨x, dx, v, rfl, _⟩ := h
    rfl
  obtain ⟨x, dx, v, rfl, nv, hx, hg⟩ := h
  have hr1 := hr.mono (show 1 ≤ 5 by decide)
  have hr2 := hr.mono (show 2 ≤ 5 by decide)
  have n1 := nA "_numbers" (by simp [stN])
  have n2 := nA "order" (by simp [stN])
  have n3 := nA "lead" (by simp [stN])
  have n4 := nA "kind" (by simp [stN])
  have n5 := nA "height" (by simp [stN])
  have n6 := nA "flat" (by simp [stN])
  have n7 := nA "strength" (by simp [stN])
  refine ⟨_, pss_cons (ps_fld (pv 0) (pe_use (E := E) UN hr rfl (passes_call (takes_of rfl rfl rfl rfl) (fun _ _ _ _ h => h)) (pa_cons (pv 1) (pa_cons pe_int pa_nil))) rfl)
    (pss_cons (ps_fld (pv 0) (pe_callB call_len_seq rfl mn PySem.boot_len (pa_cons (pv 1) pa_nil)) rfl)
    (pss_cons (ps_fld (pv 0) (pe_ix ix_list (pe_fld (pv 0) rfl) pe_int (fun _ _ => rfl)) rfl)
    (pss_cons (ps_fld (pv 0) (pe_use UD hr2 rfl pass0 (pa_cons (pe_fld (pv 0) rfl) pa_nil)) rfl)
    (pss_cons (ps_fld (pv 0) (pe_use UL hr1 rfl pass0 (pa_cons (pe_fld (pv 0) rfl) (pa_cons pe_int pa_nil))) rfl)
    (pss_cons (ps_fld (pv 0) pe_non rfl)
    (pss_cons (ps_fld (pv 0) pe_non rfl)
    (C8.pss_cut (ps_if (pt_cmpR op_eq (pe_fld (pv 0) rfl) pe_str (nomark _)) (pss_cons (ps_fld (pv 0) (pe_use UL hr1 rfl pass0 (pa_cons (pe_slice sl_list (pe_fld (pv 0) rfl) (po_some pe_int) po_none) (pa_cons pe_int pa_nil))) rfl)
        (pss_one (ps_fld (pv 0) (pe_ix ix_list (pe_fld (pv 0) rfl) (pe_fld (pv 0) rfl) (fun _ _ => rfl)) rfl))) pss_nil)
    (pss_one (ps_if (pt_cmpR op_eq (pe_fld (pv 0) rfl) pe_str (nomark _)) (pss_one (ps_fld (pv 0) (pe_ix ix_list (pe_fld (pv 0) rfl) (pe_op op_sub (pe_fld (pv 0) rfl) pe_int) (fun _ _ => rfl)) rfl)) pss_nil))))))))), ?_⟩
  refine ⟨_, rfl, v, 0, rfl, ?_⟩
  refine hg.cn fun a xs qs H1 b ev ha nx g l1 l2 s1 nb hb => ?_
  subst ev
  have xb : b ≠ x := fun e => by rw [e, hx] at nb; cases nb
  have xa : a ≠ x := fun e => nv (by rw [e])
  have lq : xs.length = qs.length := nx.1
  have g1 : Stg K H H1 x S dx [] b xs qs := ⟨But.same s1, s1 _ _ hx, hb, nx.same s1, xb⟩
  have ha1 := ha.same s1
  refine ⟨_, rfl, x, S, dx, _, rfl, g1.hx, c, n1, by decide, ?_⟩
  have g2 := g1.put (putF "_numbers" (.ref b) [])
  have ha2 : SqH (upd H1 x (.ins S dx (putF "_numbers" (.ref b) []))) a xs := by
    unfold SqH
    rw [upd_ne xa]
    exact ha1
  generalize upd H1 x (.ins S dx (putF "_numbers" (.ref b) [])) = H2 at g2 ha2
  refine ⟨_, rfl, a, _, rfl, ha2.imp SqL.of SqT.of, _, rfl, x, S, dx, _, rfl, g2.hx, c, n2, (by show 1 < 1000; decide), ?_⟩
  have g3 := g2.put (putF "order" (.int ((xs.length : Nat) : Int)) (putF "_numbers" (.ref b) []))
  generalize upd H2 x (.ins S dx (putF "order" (.int ((xs.length : Nat) : Int)) (putF "_numbers" (.ref b) []))) = H3 at g3
  obtain ⟨x0, e0, m0⟩ := g3.nx.get' (i := 0) (by omega)
  refine ⟨_, rfl, x, S, dx, _, _, rfl, g3.hx, c, n1, rfl, b, xs, 0, x0, rfl, rfl, SqL.of g3.hb, at_of (j := 0) rfl e0, _, rfl, x, S, dx, _, rfl, g3.hx, c, n3, (by show 2 < 1000; decide), ?_⟩
  rw [lq] at g3 ⊢
  generalize hln : (((qs.length : Nat)) : Int) = ln at g3
  have g4 := g3.put (putF "lead" x0 (putF "order" (.int ln) (putF "_numbers" (.ref b) [])))
  generalize upd H3 x (.ins S dx (putF "lead" x0 (putF "order" (.int ln) (putF "_numbers" (.ref b) [])))) = H4 at g4
  refine ⟨_, rfl, x, S, dx, _, _, rfl, g4.hx, c, n1, rfl, .ref b, qs, rfl, ⟨b, xs, rfl, g4.hb, g4.nx⟩, by omega, by omega, fun H5 s5 => ?_⟩
  have g5 := g4.go s5
  refine ⟨_, rfl, x, S, dx, _, rfl, g5.hx, c, n4, (by show 3 < 1000; decide), ?_⟩
  generalize hkd : kindS qs = kd
  have g6 := g5.put (putF "kind" (.str kd) (putF "lead" x0 (putF "order" (.int ln) (putF "_numbers" (.ref b) []))))
  generalize upd H5 x (.ins S dx (putF "kind" (.str kd) (putF "lead" x0 (putF "order" (.int ln) (putF "_numbers" (.ref b) []))))) = H6 at g6
  refine ⟨_, rfl, x, S, dx, _, _, rfl, g6.hx, c, n1, rfl, .ref b, qs, 1, rfl, ⟨b, xs, rfl, g6.hb, g6.nx⟩, fun H7 s7 => ?_⟩
  have g7 := g6.go s7
  refine ⟨_, rfl, x, S, dx, _, rfl, g7.hx, c, n5, (by show 4 < 1000; decide), ?_⟩
  generalize hhv : hgtV qs 1 = hv
  have g8 := g7.put (putF "height" hv (putF "kind" (.str kd) (putF "lead" x0 (putF "order" (.int ln) (putF "_numbers" (.ref b) [])))))
  generalize upd H7 x (.ins S dx (putF "height" hv (putF "kind" (.str kd) (putF "lead" x0 (putF "order" (.int ln) (putF "_numbers" (.ref b) [])))))) = H8 at g8
  refine ⟨_, rfl, x, S, dx, _, rfl, g8.hx, c, n6, (by show 5 < 1000; decide), ?_⟩
  have g9 := g8.put (putF "flat" .non (putF "height" hv (putF "kind" (.str kd) (putF "lead" x0 (putF "order" (.int ln) (putF "_numbers" (.ref b) []))))))
  generalize upd H8 x (.ins S dx (putF "flat" .non (putF "height" hv (putF "kind" (.str kd) (putF "lead" x0 (putF "order" (.int ln) (putF "_numbers" (.ref b) []))))))) = H9 at g9
  refine ⟨_, rfl, x, S, dx, _, rfl, g9.hx, c, n7, (by show 6 < 1000; decide), ?_⟩
  have g10 : Stg K H (upd H9 x (.ins S dx (stF b ln x0 kd hv .non .non))) x S dx (stF b ln x0 kd hv .non .non) b xs qs := g9.put _
  refine ⟨fun σ H' => σ = [some (.ref x), some (.ref a)] ∧ ∃ fv sv, Stg K H H' x S dx (stF b ln x0 kd hv fv sv) b xs qs ∧ fv = flS qs ∧ (kindS qs = "creep" → StrV K H' sv qs) ∧ (kindS qs ≠ "creep" → sv = .non), ?_, ?_⟩
  · change Stg K H (upd H9 x (.ins S dx (putF "strength" .non (putF "flat" .non (putF "height" hv (putF "kind" (.str kd) (putF "lead" x0 (putF "order" (.int ln) (putF "_numbers" (.ref b) [])))))))))  x S dx (stF b ln x0 kd hv .non .non) b xs qs at g10
    generalize upd H9 x (.ins S dx (putF "strength" .non (putF "flat" .non (putF "height" hv (putF "kind" (.str kd) (putF "lead" x0 (putF "order" (.int ln) (putF "_numbers" (.ref b) [])))))))) = H10 at g10
    refine ⟨_, rfl, x, S, dx, _, _, rfl, g10.hx, c, n4, rfl, rfl, _, rfl, ite2 (fun e => ?_) (fun e => ⟨rfl, _, _, g10, (flS_no (by rw [hkd]; exact fun z => e (by rw [z]; exact decide_eq_true rfl))).symm, fun z => absurd (by rw [← hkd, z]; exact decide_eq_true rfl) e, fun _ => rfl⟩)⟩
    have ek : kindS qs = "creep" := by rw [hkd]; exact V.str.inj (of_decide_eq_true e)
    obtain ⟨k, hk, ek2⟩ := hgtN_ex (qs.drop 1) 0 (kind_creep ek)
    rw [List.length_drop] at hk
    refine ⟨_, rfl, x, S, dx, _, _, rfl, g10.hx, c, n1, rfl, 1, rfl, b, _, rfl, SqL.of g10.hb, fun p np => ?_⟩
    have ec : cutV xs (some 1) none = xs.drop 1 := cut_drop xs 1
    rw [ec]
    have s11 := new_same np (.lst (xs.drop 1))
    have g11 := g10.go s11
    refine ⟨.ref p, qs.drop 1, 1, rfl, ⟨p, _, rfl, upd_same, g11.nx.drop 1⟩, fun H12 s12 => ?_⟩
    have g12 := g11.go s12
    have ev : hgtV (qs.drop 1) 1 = .int (1 + (k : Nat)) := by
      unfold hgtV
      rw [ek2, Nat.zero_add]
    rw [ev]
    refine ⟨_, rfl, x, S, dx, _, rfl, g12.hx, c, n6, (by show 7 < 1000; decide), ?_⟩
    have g13 : Stg K H (upd H12 x (.ins S dx (putF "flat" (.int (1 + (k : Nat))) (stF b ln x0 kd hv .non .non)))) x S dx (stF b ln x0 kd hv (.int (1 + (k : Nat))) .non) b xs qs := g12.put _
    generalize upd H12 x (.ins S dx (putF "flat" (.int (1 + (k : Nat))) (stF b ln x0 kd hv .non .non))) = H13 at g13
    have e3 := List.getElem?_eq_getElem (l := xs) (i := 1 + k) (by omega)
    refine ⟨_, rfl, x, S, dx, _, _, rfl, g13.hx, c, n1, rfl, _, rfl, x, S, dx, _, _, rfl, g13.hx, c, n6, rfl, b, xs, _, _, rfl, rfl, SqL.of g13.hb, at_of (j := 1 + k) (by omega) e3, _, rfl, x, S, dx, _, rfl, g13.hx, c, n7, (by show 7 < 1000; decide), ?_⟩
    obtain ⟨r, hr', nr⟩ := g13.nx.get e3
    refine ⟨rfl, _, _, g13.put _, ?_, fun _ => ?_, fun z => absurd ek z⟩
    · rw [flS_yes ek, ev]
    · unfold StrV
      rw [strI_creep ek, ek2]
      exact ⟨r, by rw [Nat.zero_add]; exact hr', nr.but g13.hx but_put⟩
  · rintro σ H10 ⟨rfl, fv, sv, g10, hfv, hs1, hs2⟩
    have fin : ∀ H' fv sv, Stg K H H' x S dx (stF b ln x0 kd hv fv sv) b xs qs → fv = flS qs → StrV K H' sv qs → Q .non H' := fun H' fv sv z z1 z2 => by
      refine g H' b x0 fv sv e0 z.u nb ?_ z.hb z1 z2
      rw [hln, hkd, hhv]
      exact z.hx
    refine ⟨_, rfl, x, S, dx, _, _, rfl, g10.hx, c, n4, rfl, rfl, _, rfl, ite2 (fun e => ?_) (fun e => fin _ _ _ g10 hfv ?_)⟩
    · have ek : kindS qs = "crush" := by rw [hkd]; exact V.str.inj (of_decide_eq_true e)
      obtain ⟨k, hk, ek2⟩ := hgtN_ex qs 0 (kind_crush ek)
      have ev : hv = .int (1 + (k : Nat)) := by
        rw [← hhv]
        unfold hgtV
        rw [ek2, Nat.zero_add]
      have e3 := List.getElem?_eq_getElem (l := xs) (i := k) (by omega)
      refine ⟨_, rfl, x, S, dx, _, _, rfl, g10.hx, c, n1, rfl, _, rfl, x, S, dx, _, _, rfl, g10.hx, c, n5, rfl, 1 + (k : Nat), 1, ev, rfl, b, xs, _, _, rfl, rfl, SqL.of g10.hb, at_of (j := k) (by omega) e3, _, rfl, x, S, dx, _, rfl, g10.hx, c, n7, (by show 7 < 1000; decide), ?_⟩
      obtain ⟨r, hr', nr⟩ := g10.nx.get e3
      refine fin _ fv _ (g10.put _) hfv ?_
      unfold StrV
      rw [strI_crush ek, ek2, Nat.zero_add]
      exact ⟨r, hr', nr.but g10.hx but_put⟩
    · by_cases ek : kindS qs = "creep"
      · exact hs1 ek
      · rw [hs2 ek]
        unfold StrV
        rw [strI_no ek (by rw [hkd]; exact fun z => e (by rw [z]; exact decide_eq_true rfl))]
end
end Kx
end
section
set_option maxHeartbeats 4000000
namespace Kx
open PySem PySem.Spec PyProof.Rows L2 RZ
variable {nb : Nat}
theorem StrV.same {K : PySem.W.Frag} {H H' : Hp} {sv : V} {qs : List Rat} (h : StrV K H sv qs) (s : Same H H') : StrV K H' sv qs := by
  unfold StrV at h ⊢
  split at h
  · obtain ⟨r, h1, h2⟩ := h
    exact ⟨r, h1, h2.same s⟩
  · exact h
theorem StrV.go {K : PySem.W.Frag} {H H' : Hp} {B p : Addr} {sv : V} {qs : List Rat} (h : StrV K H sv qs) (b : Bag nb H B p) (s : Go B H H') : StrV K H' sv qs := by
  unfold StrV at h ⊢
  split at h
  · obtain ⟨r, h1, h2⟩ := h
    exact ⟨r, h1, h2.go b s⟩
  · exact h
theorem StrV.ext {K : PySem.W.Frag} {H H' : Hp} {sv : V} {qs : List Rat} (h : StrV K H sv qs) (s : LamX.ExtN H H') : StrV K H' sv qs := by
  unfold StrV at h ⊢
  split at h
  · obtain ⟨r, h1, h2⟩ := h
    exact ⟨r, h1, h2.ext s⟩
  · exact h
/-- a step, its flat and its strength, too -/
def StF (K : PySem.W.Frag) (S : Addr) (H : Hp) (v : V) (qs : List Rat) : Prop := ∃ (x dx b : Addr) (xs : List V) (x0 sv : V), v = .ref x ∧ H x = some (.ins S dx (stF b (qs.length : Int) x0 (kindS qs) (hgtV qs 1) (flS qs) sv)) ∧ H b = some (.lst xs) ∧ Nl K H xs qs ∧ xs[0]? = some x0 ∧ StrV K H sv qs ∧ 2 ≤ qs.length ∧ qs.length ≤ 24
section
variable {K : PySem.W.Frag} {S B p : Addr} {H H' : Hp} {v : V} {qs : List Rat}
theorem StF.st (h : StF K S H v qs) : StAt K S H v qs := by
  obtain ⟨x, dx, b, xs, x0, sv, e, h1, h2, h3, h4, _, h5⟩ := h
  exact ⟨x, dx, b, xs, x0, _, sv, e, h1, h2, h3, h4, h5⟩
theorem StF.same (h : StF K S H v qs) (s : Same H H') : StF K S H' v qs := by
  obtain ⟨x, dx, b, xs, x0, sv, e, h1, h2, h3, h4, h5, h6⟩ := h
  exact ⟨x, dx, b, xs, x0, sv, e, s _ _ h1, s _ _ h2, h3.same s, h4, h5.same s, h6⟩
theorem StF.go (h : StF K S H v qs) (b : Bag nb H B p) (s : Go B H H') : StF K S H' v qs := by
  obtain ⟨x, dx, c, xs, x0, sv, e, h1, h2, h3, h4, h5, h6⟩ := h
  exact ⟨x, dx, c, xs, x0, sv, e, ins_go h1 b s, s _ _ (h3.ne (by omega) h2 b) (fun ps z => by cases z) h2, h3.go b s, h4, h5.go b s, h6⟩
theorem StF.ext (h : StF K S H v qs) (s : LamX.ExtN H H') : StF K S H' v qs := by
  obtain ⟨x, dx, b, xs, x0, sv, e, h1, h2, h3, h4, h5, h6⟩ := h
  exact ⟨x, dx, b, xs, x0, sv, e, s _ _ h1 (fun ps z => by cases z), s _ _ h2 (fun ps z => by cases z), h3.ext s, h4, h5.ext s, h6⟩
end
/-- a new step comes back, its flat and its strength, too -/
def GivesF (K : PySem.W.Frag) (S : Addr) (H : Hp) (Q : VK) (rs : List Rat) : Prop := ∀ H' y, Same H H' → StF K S H' y rs → Q y H'
section
variable {P : Program} {w : World} {K : PySem.W.Frag} {mg : Str → Option Value} {base : Heap} {f C S CF CO CN CP CL CU o0 o1 : Addr} {fd : FuncData} {H : Hp} {qs : List Rat}
/-- Step(..) from a list of numbers: the step's own list is new -/
theorem step_newF {a : Addr} {xs : List V} {E : XK} {R : VK} {x dx : Addr} (ha : SqH H a xs) (hn : Nl K H xs qs) (l1 : 2 ≤ qs.length) (l2 : qs.length ≤ 24) (nx : H x = none) (ndx : H dx = none) (ne : dx ≠ x)
    (q : ∀ H', Same H H' → StF K S H' (.ref x) qs → R .non H') :
    spSIF K S CF CO [.ref x, .ref a] (upd (upd H dx (.own x)) x (.ins S dx [])) R E := by
  have hx2 : upd (upd H dx (.own x)) x (.ins S dx []) x = some (.ins S dx []) := upd_same
  have sm : Same H (upd (upd H dx (.own x)) x (.ins S dx [])) := (new_same ndx _).trans (new_same (by rw [upd_ne (Ne.symm ne)]; exact nx) _)
  refine ⟨x, dx, .ref a, rfl, fun e => ?_, hx2, .inr ⟨a, xs, rfl, ha.same sm, .inr ⟨by rw [hn.1]; omega, by rw [hn.1]; omega, .inr ⟨qs, hn.same sm, fun H' b x0 fv sv h0 u nb hx hb e1 e2 => ?_⟩⟩⟩⟩
  · rw [V.ref.inj e] at ha
    rcases ha with h | h <;> rw [nx] at h <;> cases h
  · have s' : Same H H' := fun e o he => u e o (fun z => by rw [z, nx] at he; cases he) (sm e o he)
    subst e1
    exact q H' s' ⟨x, dx, b, xs, x0, sv, rfl, hx, hb, hn.same s', h0, e2, l1, l2⟩
end
/-- what stands of the class of the steps -/
structure StepK (P : Program) (w : World) (K : PySem.W.Frag) (mg : Str → Option Value) (base : Heap) (C S CF CO : Addr) : Prop where
  c : Cls K S
  nA : ∀ n ∈ stN, NoAttr K S n
  m : mg "Step" = some (.ref S)
  ini : ∃ (fI : Addr) (fd : FuncData), Mk K S fI ∧ FnOk P w K mg base (L2.CX P w) 6 fI fd ["self", "numbers"] (spSIF K S CF CO) ∧ Binds K fd ["self", "numbers"] []
def spNuS (K : PySem.W.Frag) (S : Addr) : Sp := fun vs H Q _ => ∃ (x : V) (qs : List Rat), vs = [x] ∧ StAt K S H x qs ∧ GivesL K H Q qs
section
variable {P : Program} {w : World} {K : PySem.W.Frag} {mg : Str → Option Value} {base : Heap} {f C S CF CO CN CP CL CU o0 o1 : Addr} {fd : FuncData} {H : Hp} {qs : List Rat}
theorem StAt.num {H : Hp} {v : V} {qs : List Rat} (h : StAt K S H v qs) : ∃ (x dx b : Addr) (xs : List V) (fs : List (Str × V)), v = .ref x ∧ H x = some (.ins S dx fs) ∧ H b = some (.lst xs) ∧ Nl K H xs qs ∧ fs.lookup ("_numbers" : Str) = some (.ref b) ∧ fs.lookup ("order" : Str) = some (.int (qs.length : Int)) ∧ 2 ≤ qs.length ∧ qs.length ≤ 24 := by
  obtain ⟨x, dx, b, xs, x0, fv, sv, e, h1, h2, h3, _, h5, h6⟩ := h
  exact ⟨x, dx, b, xs, _, e, h1, h2, h3, rfl, rfl, h5, h6⟩
theorem scSNu : FnScope ["self"] ["self"] (defScope C_Step_numbers) := ⟨rfl, rfl, rfl, by decide +kernel, rfl, by decide +kernel, by decide +kernel⟩
theorem ok_snumbers (G : Fun K "numbers" "Step.numbers" C_Step_numbers f fd) (k : StepK P w K mg base C S CF CO) (ml : mg "list" = none) : FnOk P w K mg base CX0 1 f fd ["self"] (spNuS K S) := by
  refine G.ok scSNu (fun vs H Q E h => ?_) (fun cdv A outer s H vs Q E hr h => ?_)
  · obtain ⟨x, qs, rfl, _⟩ := h
    rfl
  obtain ⟨v, qs, rfl, hR, q⟩ := h
  obtain ⟨x, dx, b, xs, fs, rfl, hx, hb, nx, f1, f2, _⟩ := hR.num
  refine ⟨_, pss_one (ps_ret (pe_callTy call_list_of rfl ml (by decide +kernel) (pa_cons (pe_fld (pv 0) rfl) pa_nil))), ?_⟩
  exact ⟨_, rfl, x, S, dx, _, _, rfl, hx, k.c, k.nA _ (by simp [stN]), f1, b, xs, rfl, .inl (SqL.of hb), fun l nl => q l _ xs (new_same nl _) nl upd_same (nx.same (new_same nl _))⟩

theorem step_new {H H1 : Hp} {a : Addr} {xs : List V} {qs : List Rat} {E : XK} {Q : VK} (s : Same H H1) (ha : SqH H1 a xs) (hn : Nl K H1 xs qs) (l1 : 2 ≤ qs.length) (l2 : qs.length ≤ 24) (g : GivesF K S H Q qs) :
    ∀ x dx, H1 x = none → H1 dx = none → dx ≠ x → spSIF K S CF CO [.ref x, .ref a] (upd (upd H1 dx (.own x)) x (.ins S dx [])) (fun z H2 => z = .non ∧ Q (.ref x) H2) E := fun x dx nx ndx ne =>
  step_newF ha hn l1 l2 nx ndx ne fun H' s' r => ⟨rfl, g H' _ (s.trans s') r⟩
end
end Kx
end
section
set_option maxHeartbeats 4000000
/-! enumerate over a zip of two lists -/
namespace PySem
open Sem (wp)
open AutoSeq1 (wpAny_loadPart')
/-- a zip with its fields; f0 is what it handed out -/
abbrev ZP (h : Heap) (z TI TO : Addr) (f0 : Value) (f1 : Bool) : Prop :=
  h.get? z = some { cls := .type "zip", dict := none, data := .fields #[f0, .bool f1, .bool false, .ref TI, .ref TO], slots := #[] }
def ZPa (h : Heap) (z TI TO : Addr) : Prop := ∃ f0 f1, ZP h z TI TO f0 f1 ∧ (f0 = .none ∨ ∃ T : Addr, f0 = rawInt T)
section
variable {prog : Program} {w : World} {A : Around} {E : Value → Shared → Prop} {s : Shared}
theorem zpa_free {z TI TO : Addr} {Q : Bool → Shared → Prop} (hz : ZPa s.heap z TI TO) (h1 : ∀ f0 f1, ZP s.heap z TI TO f0 f1 → Q true s) (h2 : ∀ h', ZPa h' z TI TO → Heap.SameBut z s.heap h' → Q false { s with heap := h' }) :
    wpAny (model prog w) A (Builtin.SmallTypes.ownedTupleIsFree (.ref z)) Q E s := by
  obtain ⟨f0, f1, hz, hf⟩ := hz
  rcases hf with rfl | ⟨T, rfl⟩
  · unfold Builtin.SmallTypes.ownedTupleIsFree
    exact wpAny_bind (wpAny_field hz rfl (x := .none) rfl (wpAny_pure (h1 _ _ hz)))
  · cases hT : s.heap.get? T with
    | some oT => exact wpAny_tupleHeld_zip hz hT fun h' hz' sb => h2 h' ⟨_, _, hz', .inr ⟨T, rfl⟩⟩ sb
    | none =>
      unfold Builtin.SmallTypes.ownedTupleIsFree
      refine wpAny_bind (wpAny_field hz rfl (x := rawInt T) rfl ?_)
      show wpAny _ _ (loadIfAlive ((T : Int).toNat) >>= _) _ _ _
      rw [Int.toNat_natCast]
      refine wpAny_bind ?_
      have key : ∀ {R : Option Obj → Shared → Prop}, R none s → wpAny (model prog w) A (loadIfAlive T) R E s := fun {R} h => by
        have h' : R (s.heap.get? T) s := by rw [hT]; exact h
        exact fun _ _ _ => h'
      refine key ?_
      simp only [Option.isNone_none, if_true]
      exact wpAny_pure (h1 _ _ hz)
theorem zpa_next_item {z TI TO i1 i2 l1 l2 : Addr} {k1 k2 : Nat} {xs ys : Array Value} {x y : Value} {Q : Value → Shared → Prop} (D : ZipApart z TI TO i1 i2 l1 l2)
    (hz : ZPa s.heap z TI TO) (hTI : IsPair s.heap TI (.ref i1) (.ref i2)) (hTO : ∃ a b, IsPair s.heap TO a b)
    (h1 : s.heap.IsListIter i1 l1 k1) (h2 : s.heap.IsListIter i2 l2 k2) (hl1 : s.heap.IsList l1 xs) (hl2 : s.heap.IsList l2 ys) (hx : xs[k1]? = some x) (hy : ys[k2]? = some y)
    (hQ : ∀ h', ZPa h' z TI TO → (∃ a b, IsPair h' TO a b) → h'.IsListIter i1 l1 (k1 + 1) → h'.IsListIter i2 l2 (k2 + 1) → IsPair h' s.heap.objs.size x y → h'.objs.size = s.heap.objs.size + 1 →
      (∀ c o, c ≠ z → c ≠ TO → c ≠ i1 → c ≠ i2 → s.heap.get? c = some o → h'.get? c = some o) → Q (.ref s.heap.objs.size) { s with heap := h' }) :
    wpAny (model prog w) A (Builtin.«zip.__next__» ⟨[.ref z], []⟩) (fun fin s' => ∃ v, fin = .done (.ret v) ∧ Q v s') E s := by
  obtain ⟨a, b, hTO⟩ := hTO
  obtain ⟨f0, f1, hz', _⟩ := id hz
  show wpAny _ _ (field (.ref z) 2 >>= _) _ _ _
  refine wpAny_bind (wpAny_field hz' rfl (x := .bool false) rfl ?_)
  show wpAny _ _ (field (.ref z) 3 >>= _) _ _ _
  refine wpAny_bind (wpAny_field hz' rfl (x := .ref TI) rfl ?_)
  refine wpAny_bind (wpAny_seqItems hTI rfl ?_)
  show wpAny _ _ (Builtin.SmallTypes.ownedTupleIsFree (.ref z) >>= _) _ _ _
  refine wpAny_bind (zpa_free hz (fun f0 f1 hz => ?_) (fun h₁ hz₁ hs₁ => ?_))
  · simp only [if_true]
    refine wpAny_bind (wpAny_rule ?_)
    refine wpAny_bind (wpAny_field hz rfl (x := .ref TO) rfl ?_)
    refine wpAny_bind (wpAny_setField_rec hz (by simp) fun h₁ hz₁ hs₁ => ?_)
    replace hz₁ : ZP h₁ z TI TO .ellipsis f1 := hz₁
    refine wpAny_bind ?_
    simp only [List.zipIdx_cons, List.zipIdx_nil, List.forIn_cons, List.forIn_nil]
    refine wpAny_bind (wpAny_bind (wpAny_onRaise ?_))
    show wpAny _ _ (Builtin.SmallTypes.nextOf (.ref i1) >>= _) _ _ _
    refine wpAny_bind (wpAny_nextOf_list_item (h1.extBut hs₁.extBut D.i1z) (hl1.extBut hs₁.extBut D.l1z) hx fun h₂ h1₂ hs₂ => wpAny_pure ?_)
    have hTO₂ : IsPair h₂ TO a b := hs₂.extBut _ _ D.TOi1 (hs₁.extBut _ _ D.TOz hTO)
    refine wpAny_bind (wpAny_seqItems hTO₂ rfl ?_)
    refine wpAny_bind (wpAny_updateSeq_pair hTO₂ fun h₃ hTO₃ hs₃ => ?_)
    replace hTO₃ : IsPair h₃ TO x b := hTO₃
    refine wpAny_bind (wpAny_letGo (wpAny_pure ?_))
    refine wpAny_bind (wpAny_bind (wpAny_onRaise ?_))
    show wpAny _ _ (Builtin.SmallTypes.nextOf (.ref i2) >>= _) _ _ _
    refine wpAny_bind (wpAny_nextOf_list_item (((h2.extBut hs₁.extBut D.i2z).extBut hs₂.extBut D.i12.symm).extBut hs₃.extBut D.TOi2.symm)
      (((hl2.extBut hs₁.extBut D.l2z).extBut hs₂.extBut D.l2i1).extBut hs₃.extBut D.l2TO) hy fun h₄ h2₄ hs₄ => wpAny_pure ?_)
    have hTO₄ : IsPair h₄ TO x b := hs₄.extBut _ _ D.TOi2 hTO₃
    refine wpAny_bind (wpAny_seqItems hTO₄ rfl ?_)
    refine wpAny_bind (wpAny_updateSeq_pair hTO₄ fun h₅ hTO₅ hs₅ => ?_)
    replace hTO₅ : IsPair h₅ TO x y := hTO₅
    refine wpAny_bind (wpAny_letGo (wpAny_pure (wpAny_pure ?_)))
    refine wpAny_bind (wpAny_seqItems hTO₅ rfl ?_)
    refine wpAny_bind (wpAny_newTuple ?_)
    have hsz : h₅.objs.size = s.heap.objs.size := by rw [hs₅.1, hs₄.1, hs₃.1, hs₂.1, hs₁.1]
    have hz₅ : ZP h₅ z TI TO .ellipsis f1 := hs₅.extBut _ _ D.TOz.symm (hs₄.extBut _ _ D.i2z.symm (hs₃.extBut _ _ D.TOz.symm (hs₂.extBut _ _ D.i1z.symm hz₁)))
    have hk₅ : ∀ c o, c ≠ z → c ≠ TO → c ≠ i1 → c ≠ i2 → s.heap.get? c = some o → h₅.get? c = some o := fun c o c1 c2 c3 c4 e =>
      hs₅.extBut _ _ c2 (hs₄.extBut _ _ c4 (hs₃.extBut _ _ c2 (hs₂.extBut _ _ c3 (hs₁.extBut _ _ c1 e))))
    have h1₅ : h₅.IsListIter i1 l1 (k1 + 1) := ((h1₂.extBut hs₃.extBut D.TOi1.symm).extBut hs₄.extBut D.i12).extBut hs₅.extBut D.TOi1.symm
    have h2₅ : h₅.IsListIter i2 l2 (k2 + 1) := h2₄.extBut hs₅.extBut D.TOi2.symm
    have hzlt : z < h₅.objs.size := Heap.lt_size hz₅
    show wpAny _ _ (Builtin.SmallTypes.ownedTupleHandOut (.ref z) (.ref h₅.objs.size) >>= _) _ _ _
    refine wpAny_bind ?_
    unfold Builtin.SmallTypes.ownedTupleHandOut
    have hz₆ : ZP (h₅.push { cls := .type "tuple", data := .seq #[x, y] }) z TI TO .ellipsis f1 := Heap.get?_push_of_some _ hz₅
    refine wpAny_bind (wpAny_setField_rec hz₆ (by simp) fun h₇ hz₇ hs₇ => ?_)
    replace hz₇ : ZP h₇ z TI TO (rawInt h₅.objs.size) f1 := hz₇
    refine wpAny_setField_rec hz₇ (by simp) fun h₈ hz₈ hs₈ => ?_
    replace hz₈ : ZP h₈ z TI TO (rawInt h₅.objs.size) false := hz₈
    have up : ∀ c o, c ≠ z → h₅.get? c = some o → h₈.get? c = some o := fun c o c1 e => hs₈.extBut _ _ c1 (hs₇.extBut _ _ c1 (Heap.get?_push_of_some _ e))
    have hT₈ : IsPair h₈ h₅.objs.size x y := hs₈.extBut _ _ (Nat.ne_of_gt hzlt) (hs₇.extBut _ _ (Nat.ne_of_gt hzlt) (Heap.get?_push_size _ rfl))
    have hz8 : h₈.objs.size = h₅.objs.size + 1 := by rw [hs₈.1, hs₇.1, Heap.size_push]
    rw [hsz] at hz₈ hT₈ hz8
    refine wpAny_pure ⟨_, rfl, ?_⟩
    show Q (.ref h₅.objs.size) _
    rw [hsz]
    exact hQ h₈ ⟨_, _, hz₈, .inr ⟨_, rfl⟩⟩ ⟨_, _, up _ _ D.TOz hTO₅⟩ (h1₅.at fun o e => up _ o D.i1z e) (h2₅.at fun o e => up _ o D.i2z e) hT₈ hz8 fun c o c1 c2 c3 c4 e => up c o c1 (hk₅ c o c1 c2 c3 c4 e)
  · simp only [Bool.false_eq_true, if_false]
    refine wpAny_bind ?_
    rw [← Array.forIn_toList]
    simp only [List.forIn_cons, List.forIn_nil]
    refine wpAny_bind (wpAny_bind (wpAny_holding ?_))
    show wpAny _ _ (Builtin.SmallTypes.nextOf (.ref i1) >>= _) _ _ _
    refine wpAny_bind (wpAny_nextOf_list_item (s := { s with heap := h₁ }) (h1.extBut hs₁.extBut D.i1z) (hl1.extBut hs₁.extBut D.l1z) hx fun h₂ h1₂ hs₂ => wpAny_pure ?_)
    refine wpAny_pure ?_
    refine wpAny_bind (wpAny_bind (wpAny_holding ?_))
    show wpAny _ _ (Builtin.SmallTypes.nextOf (.ref i2) >>= _) _ _ _
    refine wpAny_bind (wpAny_nextOf_list_item (s := { s with heap := h₂ }) ((h2.extBut hs₁.extBut D.i2z).extBut hs₂.extBut D.i12.symm) ((hl2.extBut hs₁.extBut D.l2z).extBut hs₂.extBut D.l2i1) hy fun h₃ h2₃ hs₃ => wpAny_pure ?_)
    refine wpAny_pure (wpAny_pure ?_)
    show wpAny _ _ (newTuple [x, y] >>= _) _ _ _
    refine wpAny_bind (wpAny_newTuple ?_)
    have hsz : h₃.objs.size = s.heap.objs.size := by rw [hs₃.1, hs₂.1, hs₁.1]
    obtain ⟨g0, g1, hz₁', hg⟩ := hz₁
    have hz₃ : ZP h₃ z TI TO g0 g1 := hs₃.extBut _ _ D.i2z.symm (hs₂.extBut _ _ D.i1z.symm hz₁')
    have hk : ∀ c o, c ≠ z → c ≠ i1 → c ≠ i2 → s.heap.get? c = some o → h₃.get? c = some o := fun c o c1 c2 c3 e => hs₃.extBut _ _ c3 (hs₂.extBut _ _ c2 (hs₁.extBut _ _ c1 e))
    have h1₃ : h₃.IsListIter i1 l1 (k1 + 1) := h1₂.extBut hs₃.extBut D.i12
    refine wpAny_pure ⟨_, rfl, ?_⟩
    show Q (.ref h₃.objs.size) _
    have hp : IsPair (h₃.push { cls := .type "tuple", data := .seq #[x, y] }) h₃.objs.size x y := Heap.get?_push_size _ rfl
    have hz4 : (h₃.push { cls := .type "tuple", data := .seq #[x, y] }).objs.size = h₃.objs.size + 1 := Heap.size_push ..
    rw [hsz] at hp hz4 ⊢
    exact hQ _ ⟨_, _, Heap.get?_push_of_some _ hz₃, hg⟩ ⟨a, b, Heap.get?_push_of_some _ (hk _ _ D.TOz D.TOi1 D.TOi2 hTO)⟩ (h1₃.at fun o e => Heap.get?_push_of_some _ e) (h2₃.at fun o e => Heap.get?_push_of_some _ e) hp hz4 fun c o c1 _ c2 c3 e => Heap.get?_push_of_some _ (hk c o c1 c2 c3 e)
theorem zpa_next_end {z TI TO i1 i2 l1 l2 : Addr} {k1 k2 : Nat} {xs ys : Array Value} {Q : Fin → Shared → Prop} (hh : A.handled = none) (D : ZipApart z TI TO i1 i2 l1 l2)
    (hz : ZPa s.heap z TI TO) (hTI : IsPair s.heap TI (.ref i1) (.ref i2)) (hTO : ∃ a b, IsPair s.heap TO a b)
    (h1 : s.heap.IsListIter i1 l1 k1) (h2 : s.heap.IsListIter i2 l2 k2) (hl1 : s.heap.IsList l1 xs) (hl2 : s.heap.IsList l2 ys) (hend : xs[k1]? = none)
    (hE : ∀ h' e, (∀ c o, c ≠ z → c ≠ TO → c ≠ i1 → c ≠ i2 → s.heap.get? c = some o → h'.get? c = some o) → (∃ o, h'.get? e = some o ∧ o.cls = .type "StopIteration") → E (.ref e) { s with heap := h' }) :
    wpAny (model prog w) A (Builtin.«zip.__next__» ⟨[.ref z], []⟩) Q E s := by
  obtain ⟨f0, f1, hz', _⟩ := id hz
  show wpAny _ _ (field (.ref z) 2 >>= _) _ _ _
  refine wpAny_bind (wpAny_field hz' rfl (x := .bool false) rfl ?_)
  show wpAny _ _ (field (.ref z) 3 >>= _) _ _ _
  refine wpAny_bind (wpAny_field hz' rfl (x := .ref TI) rfl ?_)
  refine wpAny_bind (wpAny_seqItems hTI rfl ?_)
  show wpAny _ _ (Builtin.SmallTypes.ownedTupleIsFree (.ref z) >>= _) _ _ _
  refine wpAny_bind (zpa_free hz (fun f0 f1 hz => ?_) (fun h₁ hz₁ hs₁ => ?_))
  · simp only [if_true]
    refine wpAny_bind (wpAny_rule ?_)
    refine wpAny_bind (wpAny_field hz rfl (x := .ref TO) rfl ?_)
    refine wpAny_bind (wpAny_setField_rec hz (by simp) fun h₁ hz₁ hs₁ => ?_)
    replace hz₁ : ZP h₁ z TI TO .ellipsis f1 := hz₁
    refine wpAny_bind ?_
    simp only [List.zipIdx_cons, List.zipIdx_nil, List.forIn_cons, List.forIn_nil]
    refine wpAny_bind (wpAny_bind (wpAny_onRaise ?_))
    show wpAny _ _ (Builtin.SmallTypes.nextOf (.ref i1) >>= _) _ _ _
    refine wpAny_bind (wpAny_nextOf_list_end hh (h1.extBut hs₁.extBut D.i1z) (hl1.extBut hs₁.extBut D.l1z) hend fun h₂ e hs₂ he => ?_)
    obtain ⟨oe, hoe, hce⟩ := he
    have hz₂ : ZP h₂ z TI TO .ellipsis f1 := hs₂ _ _ D.i1z.symm hz₁
    have hez : e ≠ z := fun x => by subst x; rw [hz₂] at hoe; cases hoe; simp at hce
    refine wpAny_setField_rec hz₂ (by simp) fun h₃ _ hs₃ => hE h₃ e (fun c o c1 _ c3 _ x => hs₃.extBut _ _ c1 (hs₂ _ _ c3 (hs₁.extBut _ _ c1 x))) ⟨oe, hs₃.extBut _ _ hez hoe, hce⟩
  · simp only [Bool.false_eq_true, if_false]
    refine wpAny_bind ?_
    rw [← Array.forIn_toList]
    simp only [List.forIn_cons, List.forIn_nil]
    refine wpAny_bind (wpAny_bind (wpAny_holding ?_))
    show wpAny _ _ (Builtin.SmallTypes.nextOf (.ref i1) >>= _) _ _ _
    refine wpAny_bind (wpAny_nextOf_list_end (s := { s with heap := h₁ }) hh (h1.extBut hs₁.extBut D.i1z) (hl1.extBut hs₁.extBut D.l1z) hend fun h₂ e hs₂ he => ?_)
    exact hE h₂ e (fun c o c1 _ c2 _ x => hs₂ _ _ c2 (hs₁.extBut _ _ c1 x)) he
theorem enumz_next_item {e z TI TO i1 i2 l1 l2 : Addr} {k : Nat} {xs ys : Array Value} {x y : Value} {i : Nat} {old : Value} {Q : Value → Shared → Prop} (D : ZipApart z TI TO i1 i2 l1 l2) (he : IsEnum s.heap e z i old)
    (ez : e ≠ z) (eTO : e ≠ TO) (e1 : e ≠ i1) (e2 : e ≠ i2) (eTI : e ≠ TI)
    (hz : ZPa s.heap z TI TO) (hTI : IsPair s.heap TI (.ref i1) (.ref i2)) (hTO : ∃ a b, IsPair s.heap TO a b)
    (h1 : s.heap.IsListIter i1 l1 k) (h2 : s.heap.IsListIter i2 l2 k) (hl1 : s.heap.IsList l1 xs) (hl2 : s.heap.IsList l2 ys) (hx : xs[k]? = some x) (hy : ys[k]? = some y)
    (hQ : ∀ h' tk it, IsEnumOut h' e z ((i : Int) + 1) it (s.heap.objs.size + 1) → ZPa h' z TI TO → (∃ a b, IsPair h' TO a b) → h'.IsListIter i1 l1 (k + 1) → h'.IsListIter i2 l2 (k + 1) → IsPair h' s.heap.objs.size x y →
      h'.get? (s.heap.objs.size + 1) = some { cls := .type "tuple", data := .seq #[.int i tk, .ref s.heap.objs.size] } → h'.objs.size = s.heap.objs.size + 2 →
      (∀ c o, c ≠ e → c ≠ z → c ≠ TO → c ≠ i1 → c ≠ i2 → s.heap.get? c = some o → h'.get? c = some o) → Q (.ref (s.heap.objs.size + 1)) { s with heap := h', toks := tk + 1 }) :
    wpAny (model prog w) A (Builtin.«enumerate.__next__» ⟨[.ref e], []⟩) (fun fin s' => ∃ v, fin = .done (.ret v) ∧ Q v s') E s := by
  have hT : s.TypeIs (.ref z) "zip" := by obtain ⟨f0, f1, h, _⟩ := hz; exact ⟨_, h, rfl⟩
  show wpAny _ _ (field (.ref e) 2 >>= _) _ _ _
  refine wpAny_bind (wpAny_field he rfl (x := .ref z) rfl ?_)
  refine wpAny_bind ?_
  unfold Builtin.SmallTypes.nextOf
  refine wpAny_bind (wpAny_callSpecial?_slot (name := Str.ofString "__next__") hT F.slot_zip_next
    (wpAny_call_entry F.slot_zip_next hT F.entry_zip_next (zpa_next_item D hz hTI hTO h1 h2 hl1 hl2 hx hy fun h₁ z₁ TO₁ h1₁ h2₁ p₁ sz₁ k₁ => wpAny_pure ?_) (F.args_zip_next_1 _)))
  have el : e < s.heap.objs.size := Heap.lt_size he
  have he₁ : IsEnum h₁ e z i old := k₁ _ _ ez eTO e1 e2 he
  have fin := hQ
  obtain ⟨hp, g, d, tk, os⟩ := s
  show wpAny _ _ (field (.ref e) 3 >>= _) _ _ ⟨h₁, g, d, tk, os⟩
  refine wpAny_bind (wpAny_field he₁ rfl (x := rawInt i) rfl ?_)
  show wpAny _ _ (field (.ref e) 4 >>= _) _ _ ⟨h₁, g, d, tk, os⟩
  refine wpAny_bind (wpAny_field he₁ rfl (x := .none) rfl ?_)
  show wpAny _ _ (mkInt i >>= _) _ _ ⟨h₁, g, d, tk, os⟩
  refine wpAny_bind (wpAny_mkInt ?_)
  show wpAny _ _ (setField (.ref e) 3 (rawInt ((i : Int) + 1)) >>= _) _ _ ⟨h₁, g, d, tk + 1, os⟩
  refine wpAny_bind (wpAny_setField_rec he₁ (by simp) fun h₂ he₂ hs₂ => ?_)
  replace hs₂ : Heap.SameBut e h₁ h₂ := hs₂
  replace he₂ : IsEnum h₂ e z ((i : Int) + 1) old := he₂
  show wpAny _ _ (setField (.ref e) 4 .none >>= _) _ _ ⟨h₂, g, d, tk + 1, os⟩
  refine wpAny_bind (wpAny_setField_rec he₂ (by simp) fun h₃ he₃ hs₃ => ?_)
  replace hs₃ : Heap.SameBut e h₂ h₃ := hs₃
  replace he₃ : IsEnum h₃ e z ((i : Int) + 1) old := he₃
  show wpAny _ _ (newTuple [.int i tk, .ref hp.objs.size] >>= _) _ _ ⟨h₃, g, d, tk + 1, os⟩
  refine wpAny_bind (wpAny_newTuple ?_)
  have hsz : h₃.objs.size = hp.objs.size + 1 := by rw [hs₃.1, hs₂.1]; exact sz₁
  have he₄ : IsEnum (h₃.push { cls := .type "tuple", data := .seq #[.int i tk, .ref hp.objs.size] }) e z ((i : Int) + 1) old := Heap.get?_push_of_some _ he₃
  have ht₄ : (h₃.push { cls := .type "tuple", data := .seq #[.int i tk, .ref hp.objs.size] }).get? (hp.objs.size + 1) = some { cls := .type "tuple", data := .seq #[.int i tk, .ref hp.objs.size] } := by rw [← hsz]; exact Heap.get?_push_size _ rfl
  have hz₄ : (h₃.push { cls := .type "tuple", data := .seq #[.int i tk, .ref hp.objs.size] }).objs.size = hp.objs.size + 2 := by rw [Heap.size_push, hsz]
  have hk₄ : ∀ b o, b ≠ e → h₁.get? b = some o → (h₃.push { cls := .type "tuple", data := .seq #[.int i tk, .ref hp.objs.size] }).get? b = some o := fun b o hbe hb => Heap.get?_push_of_some _ (hs₃.extBut b o hbe (hs₂.extBut b o hbe hb))
  generalize h₃.push { cls := .type "tuple", data := .seq #[.int i tk, .ref hp.objs.size] } = h₄ at he₄ ht₄ hz₄ hk₄
  show wpAny _ _ (Builtin.SmallTypes.ownedTupleIsFree (.ref e) >>= _) _ _ ⟨h₄, g, d, tk + 1, os⟩
  rw [hsz]
  clear he₃ hs₃ he₂ hs₂ hsz
  refine wpAny_bind ?_
  unfold Builtin.SmallTypes.ownedTupleIsFree
  refine wpAny_bind (wpAny_field he₄ rfl (x := .none) rfl (wpAny_pure ?_))
  simp only [if_true]
  refine wpAny_bind (wpAny_rule ?_)
  refine wpAny_bind (wpAny_field he₄ rfl (x := old) rfl ?_)
  refine wpAny_bind (wpAny_setField_rec he₄ (by simp) fun h₅ he₅ hs₅ => ?_)
  replace hs₅ : Heap.SameBut e h₄ h₅ := hs₅
  replace he₅ : IsEnum h₅ e z ((i : Int) + 1) (.ref hp.objs.size) := he₅
  show wpAny _ _ (Builtin.SmallTypes.ownedTupleHandOut (.ref e) (.ref (hp.objs.size + 1)) >>= _) _ _ ⟨h₅, g, d, tk + 1, os⟩
  refine wpAny_bind ?_
  unfold Builtin.SmallTypes.ownedTupleHandOut
  refine wpAny_bind (wpAny_setField_rec he₅ (by simp) fun h₆ he₆ hs₆ => ?_)
  replace hs₆ : Heap.SameBut e h₅ h₆ := hs₆
  replace he₆ : IsEnumOut h₆ e z ((i : Int) + 1) (.ref hp.objs.size) (hp.objs.size + 1) := he₆
  refine wpAny_setField_rec he₆ (by simp) fun h₇ he₇ hs₇ => ?_
  replace hs₇ : Heap.SameBut e h₆ h₇ := hs₇
  replace he₇ : IsEnumOut h₇ e z ((i : Int) + 1) (.ref hp.objs.size) (hp.objs.size + 1) := he₇
  have up : ∀ b o, b ≠ e → h₄.get? b = some o → h₇.get? b = some o := fun b o n h => hs₇.extBut _ _ n (hs₆.extBut _ _ n (hs₅.extBut _ _ n h))
  have up1 : ∀ b o, b ≠ e → h₁.get? b = some o → h₇.get? b = some o := fun b o n h => up b o n (hk₄ b o n h)
  refine wpAny_bind (wpAny_letGo (wpAny_pure ⟨_, rfl, ?_⟩))
  have el : e < hp.objs.size := el
  obtain ⟨g0, g1, gz, gf⟩ := z₁
  obtain ⟨a', b', hTO₁⟩ := TO₁
  exact fin h₇ tk _ he₇ ⟨g0, g1, up1 _ _ ez.symm gz, gf⟩ ⟨a', b', up1 _ _ eTO.symm hTO₁⟩ (h1₁.at fun o q => up1 _ _ e1.symm q) (h2₁.at fun o q => up1 _ _ e2.symm q) (up1 _ _ (Nat.ne_of_gt el) p₁)
    (up _ _ (Nat.ne_of_gt (Nat.lt_succ_of_lt el)) ht₄) (by rw [hs₇.1, hs₆.1, hs₅.1]; exact hz₄) fun c o n1 n2 n3 n4 n5 q => up1 _ _ n1 (k₁ c o n2 n3 n4 n5 q)
end
end PySem
end
section
set_option maxHeartbeats 4000000
namespace PySem
open Sem (wp)
open AutoSeq1 (wpAny_loadPart')
section
variable {prog : Program} {w : World} {A : Around} {E : Value → Shared → Prop} {s : Shared}
theorem pyNext_enumz_item {e z TI TO i1 i2 l1 l2 : Addr} {k : Nat} {xs ys : Array Value} {x y : Value} {i : Nat} {old : Value} {Q : Option Value → Shared → Prop} (D : ZipApart z TI TO i1 i2 l1 l2) (he : IsEnum s.heap e z i old)
    (ez : e ≠ z) (eTO : e ≠ TO) (e1 : e ≠ i1) (e2 : e ≠ i2) (eTI : e ≠ TI)
    (hz : ZPa s.heap z TI TO) (hTI : IsPair s.heap TI (.ref i1) (.ref i2)) (hTO : ∃ a b, IsPair s.heap TO a b)
    (h1 : s.heap.IsListIter i1 l1 k) (h2 : s.heap.IsListIter i2 l2 k) (hl1 : s.heap.IsList l1 xs) (hl2 : s.heap.IsList l2 ys) (hx : xs[k]? = some x) (hy : ys[k]? = some y)
    (hQ : ∀ h' tk it, IsEnumOut h' e z ((i : Int) + 1) it (s.heap.objs.size + 1) → ZPa h' z TI TO → (∃ a b, IsPair h' TO a b) → h'.IsListIter i1 l1 (k + 1) → h'.IsListIter i2 l2 (k + 1) → IsPair h' s.heap.objs.size x y →
      h'.get? (s.heap.objs.size + 1) = some { cls := .type "tuple", data := .seq #[.int i tk, .ref s.heap.objs.size] } → h'.objs.size = s.heap.objs.size + 2 →
      (∀ c o, c ≠ e → c ≠ z → c ≠ TO → c ≠ i1 → c ≠ i2 → s.heap.get? c = some o → h'.get? c = some o) → Q (some (.ref (s.heap.objs.size + 1))) { s with heap := h', toks := tk + 1 }) :
    wpAny (model prog w) A (pyNext (.ref e)) Q E s := by
  have hT : s.TypeIs (.ref e) "enumerate" := ⟨_, he, rfl⟩
  unfold pyNext
  exact wpAny_bind (wpAny_attempt (wpAny_callSpecial?_slot (name := Str.ofString "__next__") hT F.slot_enumerate_next
    (wpAny_call_entry F.slot_enumerate_next hT F.entry_enumerate_next
      (enumz_next_item D he ez eTO e1 e2 eTI hz hTI hTO h1 h2 hl1 hl2 hx hy fun h' tk it a1 a2 a3 a4 a5 a6 a7 a8 a9 => wpAny_pure (hQ h' tk it a1 a2 a3 a4 a5 a6 a7 a8 a9)) (F.args_enumerate_next_1 _))))
theorem pyNext_enumz_end {e z TI TO i1 i2 l1 l2 : Addr} {k : Nat} {xs ys : Array Value} {i : Int} {old : Value} {Q : Option Value → Shared → Prop} (hh : A.handled = none) (D : ZipApart z TI TO i1 i2 l1 l2) (he : IsEnum s.heap e z i old)
    (hz : ZPa s.heap z TI TO) (hTI : IsPair s.heap TI (.ref i1) (.ref i2)) (hTO : ∃ a b, IsPair s.heap TO a b)
    (h1 : s.heap.IsListIter i1 l1 k) (h2 : s.heap.IsListIter i2 l2 k) (hl1 : s.heap.IsList l1 xs) (hl2 : s.heap.IsList l2 ys) (hend : xs[k]? = none)
    (hQ : ∀ h', (∀ c o, c ≠ z → c ≠ TO → c ≠ i1 → c ≠ i2 → s.heap.get? c = some o → h'.get? c = some o) → Q none { s with heap := h' }) :
    wpAny (model prog w) A (pyNext (.ref e)) Q E s := by
  have hT : s.TypeIs (.ref e) "enumerate" := ⟨_, he, rfl⟩
  have hTz : s.TypeIs (.ref z) "zip" := by obtain ⟨f0, f1, h, _⟩ := hz; exact ⟨_, h, rfl⟩
  unfold pyNext
  refine wpAny_bind (wpAny_attempt (wpAny_callSpecial?_slot (name := Str.ofString "__next__") hT F.slot_enumerate_next
    (wpAny_call_entry F.slot_enumerate_next hT F.entry_enumerate_next ?_ (F.args_enumerate_next_1 _))))
  show wpAny _ _ (field (.ref e) 2 >>= _) _ _ _
  refine wpAny_bind (wpAny_field he rfl (x := .ref z) rfl ?_)
  refine wpAny_bind ?_
  unfold Builtin.SmallTypes.nextOf
  refine wpAny_bind (wpAny_callSpecial?_slot (name := Str.ofString "__next__") hTz F.slot_zip_next
    (wpAny_call_entry F.slot_zip_next hTz F.entry_zip_next (zpa_next_end hh D hz hTI hTO h1 h2 hl1 hl2 hend fun h' x hk hx' => ?_) (F.args_zip_next_1 _)))
  obtain ⟨o, ho, hc⟩ := hx'
  refine wpAny_bind (wpAny_isInstance (T := "StopIteration") (b := true) ⟨o, ho, hc⟩ isSubtype_stop ?_)
  exact wpAny_pure (hQ _ hk)
theorem meets_enumerate_newZ (z TI TO : Addr) :
    Meets (Builtin.«enumerate.__new__» ⟨[.type "enumerate", .ref z], []⟩) (fun _ R s => IsZip s.heap z TI TO .none ∧
      R (.ok (.ret (.ref s.heap.objs.size)))
        { s with heap := s.heap.push { cls := .type "enumerate", data := .fields #[.none, .bool false, .ref z, rawInt 0, .none, .none] } }) :=
  .of_wp fun prog w A R s h => by
    obtain ⟨hp, g, d, tk, os⟩ := s; obtain ⟨hl, h⟩ := h
    have hsub := sub_enumerate
    wp_walk using wpAny_loadPart' hl
    refine wpAny_stack_any fun st => wpAny_pure ?_
    split
    · rename_i c _ _ _ _ _
      cases (c == Value.type "enumerate")
      · wp_walk using wpAny_loadPart' hl, wpAny_pyIter_zip hl
        exact ⟨_, rfl, h⟩
      · wp_walk using wpAny_loadPart' hl, wpAny_pyIter_zip hl
        exact ⟨_, rfl, h⟩
    · wp_walk using wpAny_loadPart' hl, wpAny_pyIter_zip hl
      exact ⟨_, rfl, h⟩
theorem call_enumerate_zip {z TI TO : Addr} {Q : Value → Shared → Prop} (hL : IsZip s.heap z TI TO .none)
    (h : ∀ h', IsEnum h' s.heap.objs.size z 0 .none → h'.objs.size = s.heap.objs.size + 1 →
      (∀ b o, s.heap.get? b = some o → h'.get? b = some o) → Q (.ref s.heap.objs.size) { s with heap := h' }) :
    wpAny (model prog w) A (call (.type "enumerate") [.ref z]) Q E s := by
  refine callType_new F.called_enumerate (by decide) (F.typeCall_enumerate_1 _) (F.newCall_enumerate_1 _) (fun obj => F.args_object_init_2 obj _) F.entry_enumerate_new
    (meets_enumerate_newZ z TI TO) ⟨hL, ?_⟩
  have he : IsEnum (s.heap.push { cls := .type "enumerate", data := .fields #[.none, .bool false, .ref z, rawInt 0, .none, .none] }) s.heap.objs.size z 0 .none := Heap.get?_push_size _ rfl
  exact ⟨⟨_, he, rfl⟩, h _ he (Heap.size_push ..) fun b o x => Heap.get?_push_of_some _ x⟩
end
end PySem
namespace L2
open PySem PySem.Spec PyProof.Rows RZ
theorem get?_push_back {h : Heap} {a : Addr} {o o' : Obj} (e : (h.push o).get? a = some o') (n : a ≠ h.objs.size) : h.get? a = some o' := by
  obtain ⟨e1, e2⟩ := Heap.get?_some_iff.mp e
  refine Heap.get?_some_iff.mpr ⟨?_, e2⟩
  cases h; simpa [Heap.push, Array.getElem?_push, n] using e1
/-- the lists at a and b as they stand at each turn, the items in a new pair, and this with the index in another one -/
def Iez (K : PySem.W.Frag) (a b : Addr) : It :=
  ⟨fun i H => ∃ (xs ys : List V) (x y : V), SqL K H a xs ∧ SqL K H b ys ∧ xs[i]? = some x ∧ ys[i]? = some y,
    fun i H v H' => ∃ T U x y, v = .ref U ∧ H T = none ∧ U ≠ T ∧ H U = none ∧ H' = upd (upd H T (.tup [x, y])) U (.tup [.int (i : Nat), .ref T]) ∧ (∀ xs, SqL K H a xs → xs[i]? = some x) ∧ ∀ ys, SqL K H b ys → ys[i]? = some y,
    fun i H => ∃ xs : List V, SqL K H a xs ∧ (∃ ys, SqL K H b ys) ∧ xs.length ≤ i⟩
theorem turn_enumz {P : Program} {w : World} {K : PySem.W.Frag} {elts : List Expr} {kk : Nat} {tpos : Pos} {a b e z TI TO i1 i2 : Addr} (D : ZipApart z TI TO i1 i2 a b) (ez : e ≠ z) (eTO : e ≠ TO) (e1 : e ≠ i1) (e2 : e ≠ i2) (eTI : e ≠ TI) :
    Turn P w K (.Tuple elts kk tpos) (Iez K a b) [e, z, TI, TO, i1, i2] e (fun i h => (∃ old, IsEnum h e z ((i : Nat) : Int) old) ∧ ZPa h z TI TO ∧ IsPair h TI (.ref i1) (.ref i2) ∧ (∃ x y, IsPair h TO x y) ∧ h.IsListIter i1 a i ∧ h.IsListIter i2 b i) where
  mem := by simp
  obj := fun i h st c hc => by
    obtain ⟨⟨old, he⟩, ⟨f0, f1, hz, _⟩, hTI, ⟨x, y, hTO⟩, ⟨o1, q1, _, d1⟩, ⟨o2, q2, _, d2⟩⟩ := st
    have e' : c = e ∨ c = z ∨ c = TI ∨ c = TO ∨ c = i1 ∨ c = i2 := by simpa using hc
    rcases e' with q | q | q | q | q | q
    · rw [q]; exact ⟨_, he, fun v q => nomatch q⟩
    · rw [q]; exact ⟨_, hz, fun v q => nomatch q⟩
    · rw [q]; exact ⟨_, hTI, fun v q => nomatch q⟩
    · rw [q]; exact ⟨_, hTO, fun v q => nomatch q⟩
    · rw [q]; exact ⟨o1, q1, fun v q => by rw [d1] at q; cases q⟩
    · rw [q]; exact ⟨o2, q2, fun v q => by rw [d2] at q; cases q⟩
  keep := fun i h h' st k => by
    obtain ⟨⟨old, he⟩, ⟨f0, f1, hz, hf⟩, hTI, ⟨x, y, hTO⟩, h1, h2⟩ := st
    exact ⟨⟨old, k e (by simp) _ he⟩, ⟨f0, f1, k z (by simp) _ hz, hf⟩, k TI (by simp) _ hTI, ⟨x, y, k TO (by simp) _ hTO⟩, h1.at fun o q => k i1 (by simp) o q, h2.at fun o q => k i2 (by simp) o q⟩
  item := by
    intro X hP hw hK hc i pins s σ H E I hf st hg
    subst hP hw hK
    obtain ⟨⟨old, he⟩, hz, hTI, hTO, h1, h2⟩ := st
    obtain ⟨xs, ys, x, y, hqx, hqy, hx, hy⟩ := hg
    obtain ⟨its, rv, p, _⟩ := I.list hqx
    obtain ⟨its2, rv2, p2, _⟩ := I.list hqy
    obtain ⟨u, hu, ru⟩ := rv.get hx
    obtain ⟨u2, hu2, ru2⟩ := rv2.get hy
    have hel : e < s.heap.objs.size := Heap.lt_size he
    refine pyNext_enumz_item D he ez eTO e1 e2 eTI hz hTI hTO h1 h2 p.isList p2.isList (x := u) (y := u2) (by simpa using hu) (by simpa using hu2) fun h' tk it ho hz' TO' h1' h2' hT hU hsz hk => ?_
    refine ⟨_, rfl, wpAny_letOwnedTupleGo_enum (s := { s with heap := h', toks := tk + 1 }) ho fun h'' he' sb => ?_⟩
    have hT2 : h''.get? s.heap.objs.size = some { cls := .type "tuple", data := .seq #[u, u2] } := (sb.2 _ (Nat.ne_of_gt hel)).trans hT
    have hU2 : h''.get? (s.heap.objs.size + 1) = some { cls := .type "tuple", data := .seq #[.int i tk, .ref s.heap.objs.size] } := (sb.2 _ (Nat.ne_of_gt (Nat.lt_succ_of_lt hel))).trans hU
    have newT : ObjOk X.prog X.w (upd H s.heap.objs.size (.tup [x, y])) h'' s.heap.objs.size (.tup [x, y]) :=
      ⟨by show 2 ≤ sizeLine; decide, [u, u2], .cons ru (.cons ru2 .nil), ⟨_, hT2, rfl, _, rfl⟩⟩
    have kk : ∀ c o, c ∉ [e, z, TI, TO, i1, i2] → s.heap.get? c = some o → h''.get? c = some o := fun c o hb q =>
      (sb.2 c (fun q' => hb (by simp [q']))).trans (hk c o (fun q' => hb (by simp [q'])) (fun q' => hb (by simp [q'])) (fun q' => hb (by simp [q'])) (fun q' => hb (by simp [q'])) (fun q' => hb (by simp [q'])) q)
    have lt : ∀ c ∈ [e, z, TI, TO, i1, i2], c < s.heap.objs.size := fun c hcm => by
      have e' : c = e ∨ c = z ∨ c = TI ∨ c = TO ∨ c = i1 ∨ c = i2 := by simpa using hcm
      rcases e' with q | q | q | q | q | q
      · rw [q]; exact hel
      · rw [q]; obtain ⟨_, _, q, _⟩ := hz; exact Heap.lt_size q
      · rw [q]; exact Heap.lt_size hTI
      · rw [q]; obtain ⟨_, _, q⟩ := hTO; exact Heap.lt_size q
      · rw [q]; obtain ⟨_, q, _⟩ := h1; exact Heap.lt_size q
      · rw [q]; obtain ⟨_, q, _⟩ := h2; exact Heap.lt_size q
    let hp : Heap := s.heap.push { cls := .type "tuple", data := .seq #[u, u2] }
    have hpT : hp.get? s.heap.objs.size = some { cls := .type "tuple", data := .seq #[u, u2] } := Heap.get?_push_size _ rfl
    have hpz : hp.objs.size = s.heap.objs.size + 1 := Heap.size_push ..
    have newT' : ObjOk X.prog X.w (upd H s.heap.objs.size (.tup [x, y])) hp s.heap.objs.size (.tup [x, y]) :=
      ⟨by show 2 ≤ sizeLine; decide, [u, u2], .cons ru (.cons ru2 .nil), ⟨_, hpT, rfl, _, rfl⟩⟩
    have I1 : Inv X pins σ (upd H s.heap.objs.size (.tup [x, y])) { s with heap := hp, toks := s.toks } :=
      I.turnedNew (t' := s.toks) (ch := []) (fun c o _ q => Heap.get?_push_of_some _ q) (fun b hb => by simp at hb) (Nat.le_refl _) newT'
    have hf1 : ∀ b ∈ [e, z, TI, TO, i1, i2], FpOk X pins (upd H s.heap.objs.size (.tup [x, y])) b := fun b hb => by
      obtain ⟨q1, q2⟩ := hf b hb
      exact ⟨by rw [upd_ne (Nat.ne_of_lt (lt b hb))]; exact q1, q2⟩
    have kk1 : ∀ c o, c ∉ [e, z, TI, TO, i1, i2] → hp.get? c = some o → h''.get? c = some o := fun c o hb q => by
      rcases Nat.lt_or_ge c s.heap.objs.size with lc | lc
      · refine kk c o hb ?_
        exact get?_push_back q (Nat.ne_of_lt lc)
      · have : c < hp.objs.size := Heap.lt_size q
        obtain rfl : c = s.heap.objs.size := Nat.le_antisymm (Nat.le_of_lt_succ (by rw [hpz] at this; exact this)) lc
        rw [hpT] at q
        rw [hT2]
        exact q
    have I2 : Inv X pins σ (upd (upd H s.heap.objs.size (.tup [x, y])) (s.heap.objs.size + 1) (.tup [.int (i : Nat), .ref s.heap.objs.size])) { s with heap := h'', toks := tk + 1 } :=
      I1.turnedNew (t' := tk + 1) (ch := [e, z, TI, TO, i1, i2]) kk1 hf1 (by show hp.objs.size ≤ _; omega)
        ⟨by show 2 ≤ sizeLine; decide, [.int i tk, .ref s.heap.objs.size], .cons ⟨_, rfl⟩ (.cons rfl .nil), ⟨_, hU2, rfl, _, rfl⟩⟩
    refine ⟨.ref (s.heap.objs.size + 1), _, I2, rfl, ⟨_, _, x, y, rfl, I.hok.fresh (Nat.le_refl _), Nat.succ_ne_self _, I.hok.fresh (Nat.le_succ _), rfl, fun l hl => by rw [I.list_inj hl hqx]; exact hx, fun l hl => by rw [I.list_inj hl hqy]; exact hy⟩, ⟨⟨it, ?_⟩, ?_, ?_, ?_, ?_, ?_⟩, fun c hcm => ?_⟩
    · have e1' : ((i + 1 : Nat) : Int) = (i : Int) + 1 := by omega
      rw [e1']; exact he'
    · obtain ⟨f0, f1, q, qf⟩ := hz'
      exact ⟨f0, f1, (sb.2 _ ez.symm).trans q, qf⟩
    · exact (sb.2 _ eTI.symm).trans (hk _ _ eTI.symm D.TIz D.TITO D.TIi1 D.TIi2 hTI)
    · obtain ⟨a', b', q⟩ := TO'
      exact ⟨a', b', (sb.2 _ eTO.symm).trans q⟩
    · exact h1'.at fun o q => (sb.2 _ e1.symm).trans q
    · exact h2'.at fun o q => (sb.2 _ e2.symm).trans q
    · have := lt c hcm
      rw [upd_ne (Nat.ne_of_lt (Nat.lt_succ_of_lt this)), upd_ne (Nat.ne_of_lt this)]
      exact (hf c hcm).1
  done := by
    intro X hP hw hK hc i pins s σ H E I hf st hg
    subst hP hw hK
    obtain ⟨⟨old, he⟩, hz, hTI, hTO, h1, h2⟩ := st
    obtain ⟨xs, hqx, ⟨ys, hqy⟩, hend⟩ := hg
    obtain ⟨its, rv, p, _⟩ := I.list hqx
    obtain ⟨its2, rv2, p2, _⟩ := I.list hqy
    have l1 := rv.length
    have he' : its.toArray[i]? = none := by simp; omega
    exact pyNext_enumz_end (I.ok.hd hc) D he hz hTI hTO h1 h2 p.isList p2.isList he' fun h' hk => ⟨rfl, I.turnedL (t' := s.toks) (ch := [e, z, TI, TO, i1, i2]) (fun c o hb q =>
      hk c o (fun q' => hb (by simp [q'])) (fun q' => hb (by simp [q'])) (fun q' => hb (by simp [q'])) (fun q' => hb (by simp [q'])) q) hf⟩
  self := fun A i s Q E st h => let ⟨⟨_, he⟩, _⟩ := st; wpAny_pyIter_enum he h
/-- enumerate(zip(x, y)) of two lists -/
def iEnZ (K : PySem.W.Frag) (ta : TA) : TI := fun σ H R => ta σ H fun vs H1 => ∃ a b xs ys, vs = [.ref a, .ref b] ∧ SqL K H1 a xs ∧ SqL K H1 b ys ∧ R (Iez K a b) H1
theorem pi_enumzip {X : Cx} {e e2 : Expr} {ta : TA} {p pos p2 pos2 tpos : Pos} {elts : List Expr} {kk : Nat} (hg : Gl X "enumerate") (hm : X.mg "enumerate" = none) (hg2 : Gl X "zip") (hm2 : X.mg "zip" = none) (ha : PA X [e, e2] ta)
    (hs : starEach [e, e2] X.env = (false, eval e X.env) :: starEach [e2] X.env := by rfl) (hpl : (backTo pos2 (starEach [e2] X.env)).any (·.1) = false := by rfl) (hz : starEach [.Call (.Name "zip" p2) [e, e2] [] pos2] X.env = [(false, eval (.Call (.Name "zip" p2) [e, e2] [] pos2) X.env)] := by rfl) :
    PI X (.Tuple elts kk tpos) (.Call (.Name "enumerate" p) [.Call (.Name "zip" p2) [e, e2] [] pos2] [] pos) (iEnZ X.K ta) := by
  refine ⟨fun pins s σ H R I h => ?_⟩
  refine Call_ (ld_blt I hg hm boot_enumerate (PyProof.Rows.callWith_type1 ?_ hz rfl))
  rw [hz]
  show wpAny _ _ (spliced [(false, eval (.Call (.Name "zip" p2) [e, e2] [] pos2) X.env)]) _ _ _
  refine Calls.spliced_cons ?_
  refine Call_ (ld_blt I hg2 hm2 PyProof.Rows.boot_zip (PyProof.Rows.callWith_type1 (thn (ha.run pos2 pins s σ H _ I h) fun us s1 ⟨vs, H1, I1, r1, q1⟩ => ?_) hs hpl))
  obtain ⟨a, b, xs, ys, ex, hqx, hqy, q⟩ := q1
  subst ex
  cases r1 with
  | cons r rr =>
    cases rr with
    | cons r' rr =>
      cases rr
      cases r
      cases r'
      obtain ⟨its, rv, p1, _⟩ := I1.list hqx
      obtain ⟨its2, rv2, p2', _⟩ := I1.list hqy
      have la : a < s1.heap.objs.size := p1.lt
      have lb : b < s1.heap.objs.size := p2'.lt
      refine call_zip_2 p1.isList p2'.isList fun h' hzz hTI hTO h1 h2 hsz hk => ?_
      refine Calls.spliced_nil ?_
      refine call_enumerate_zip (s := { s1 with heap := h' }) hzz fun h'' he hsz' hk' => wpAny_pyIter_enum he ?_
      have hk2 : ∀ c o, s1.heap.get? c = some o → h''.get? c = some o := fun c o q => hk' c o (hk c o q)
      have I2 : Inv X pins σ H1 { s1 with heap := h'' } := I1.kept (t' := s1.toks) hk2
      have he : IsEnum h'' (s1.heap.objs.size + 5) (s1.heap.objs.size + 4) 0 .none := by rw [← hsz]; exact he
      have nn : ∀ i j : Nat, i ≠ j → s1.heap.objs.size + i ≠ s1.heap.objs.size + j := fun i j h e => h (Nat.add_left_cancel e)
      show PIE X pins σ _ R (.ref h'.objs.size) _
      rw [hsz]
      refine ⟨s1.heap.objs.size + 5, [s1.heap.objs.size + 5, s1.heap.objs.size + 4, s1.heap.objs.size + 2, s1.heap.objs.size + 3, s1.heap.objs.size, s1.heap.objs.size + 1], _, _, H1, rfl, I2,
        turn_enumz (PySem.W.ktu_apart s1.heap.objs.size a b la lb) (nn 5 4 (by decide)) (nn 5 3 (by decide)) (nn 5 0 (by decide)) (nn 5 1 (by decide)) (nn 5 2 (by decide)),
        ⟨⟨.none, he⟩, ⟨.none, false, hk' _ _ hzz, .inl rfl⟩, hk' _ _ hTI, ⟨_, _, hk' _ _ hTO⟩, h1.at fun o q => hk' _ _ q, h2.at fun o q => hk' _ _ q⟩, fun c hcm => ?_, q⟩
      have e' : c = s1.heap.objs.size + 5 ∨ c = s1.heap.objs.size + 4 ∨ c = s1.heap.objs.size + 2 ∨ c = s1.heap.objs.size + 3 ∨ c = s1.heap.objs.size ∨ c = s1.heap.objs.size + 1 := by simpa using hcm
      have hle : s1.heap.objs.size ≤ c := by
        rcases e' with z | z | z | z | z | z
        · rw [z]; exact Nat.le_add_right _ _
        · rw [z]; exact Nat.le_add_right _ _
        · rw [z]; exact Nat.le_add_right _ _
        · rw [z]; exact Nat.le_add_right _ _
        · rw [z]; exact Nat.le_refl _
        · rw [z]; exact Nat.le_add_right _ _
      exact I1.fpOk hle (I1.hok.fresh hle)
def YEz (xs ys : List V) : Nat → Hp → V → Hp → Prop := fun i H v H' => ∃ T U x y, v = .ref U ∧ H T = none ∧ U ≠ T ∧ H U = none ∧ H' = upd (upd H T (.tup [x, y])) U (.tup [.int (i : Nat), .ref T]) ∧ xs[i]? = some x ∧ ys[i]? = some y
theorem walk_enumzip {K : PySem.W.Frag} {a b : Addr} {xs ys : List V} (hl : xs.length = ys.length) : Walk (Iez K a b) xs.length (fun H => SqL K H a xs ∧ SqL K H b ys) (YEz xs ys) := by
  refine ⟨fun i _ hi q => ⟨xs, ys, xs[i], ys[i]'(by omega), q.1, q.2, by simp [hi], by simp [show i < ys.length by omega]⟩, fun _ q => ⟨xs, q.1, ⟨ys, q.2⟩, Nat.le_refl _⟩, fun i H v H' _ q y => ?_⟩
  obtain ⟨T, U, x, y, h1, h2, h3, h4, h5, h6, h7⟩ := y
  exact ⟨T, U, x, y, h1, h2, h3, h4, h5, h6 xs q.1, h7 ys q.2⟩
end L2
end
section
set_option maxHeartbeats 4000000
namespace Kx
/-! ### sums and series -/
abbrev Ser := Nat → Rat
def sumN (f : Nat → Rat) : Nat → Rat
  | 0 => 0
  | n + 1 => sumN f n + f n
theorem sum_congr {f g : Nat → Rat} : ∀ {n : Nat}, (∀ i, i < n → f i = g i) → sumN f n = sumN g n
  | 0, _ => rfl
  | n + 1, h => by
    show _ + _ = _ + _
    rw [sum_congr (n := n) fun i hi => h i (Nat.lt_succ_of_lt hi), h n (Nat.lt_succ_self n)]
theorem sum_zero {f : Nat → Rat} : ∀ {n : Nat}, (∀ i, i < n → f i = 0) → sumN f n = 0
  | 0, _ => rfl
  | n + 1, h => by
    show _ + _ = _
    rw [sum_zero (n := n) fun i hi => h i (Nat.lt_succ_of_lt hi), h n (Nat.lt_succ_self n), Rat.add_zero]
theorem sum_add (f g : Nat → Rat) : ∀ n, sumN (fun i => f i + g i) n = sumN f n + sumN g n
  | 0 => (Rat.add_zero 0).symm
  | n + 1 => by
    show sumN _ n + _ = (sumN f n + f n) + (sumN g n + g n)
    rw [sum_add f g n]
    grind
theorem sum_mul (c : Rat) (f : Nat → Rat) : ∀ n, sumN (fun i => c * f i) n = c * sumN f n
  | 0 => (Rat.mul_zero c).symm
  | n + 1 => by
    show sumN _ n + _ = c * (sumN f n + f n)
    rw [sum_mul c f n]
    grind
theorem sum_mulR (c : Rat) (f : Nat → Rat) (n : Nat) : sumN (fun i => f i * c) n = sumN f n * c := by
  rw [Rat.mul_comm, ← sum_mul]
  exact sum_congr fun i _ => Rat.mul_comm _ _
theorem sum_swap (F : Nat → Nat → Rat) (m : Nat) : ∀ n, sumN (fun i => sumN (F i) m) n = sumN (fun j => sumN (fun i => F i j) n) m
  | 0 => (sum_zero fun i _ => rfl).symm
  | n + 1 => by
    show sumN _ n + _ = sumN (fun j => sumN (fun i => F i j) n + F n j) m
    rw [sum_swap F m n, sum_add]
theorem sum_first (f : Nat → Rat) : ∀ n, sumN f (n + 1) = f 0 + sumN (fun i => f (i + 1)) n
  | 0 => by
    show (0 : Rat) + f 0 = f 0 + 0
    rw [Rat.zero_add, Rat.add_zero]
  | n + 1 => by
    show sumN f (n + 1) + f (n + 1) = f 0 + (sumN (fun i => f (i + 1)) n + f (n + 1))
    rw [sum_first f n, Rat.add_assoc]
theorem sum_refl (f : Nat → Rat) (n : Nat) : sumN (fun i => f (n - i)) (n + 1) = sumN f (n + 1) := by
  induction n generalizing f with
  | zero => rfl
  | succ n ih =>
    rw [sum_first]
    show f (n + 1) + _ = sumN f (n + 1) + f (n + 1)
    rw [← ih f, Rat.add_comm]
    congr 1
    exact sum_congr fun i _ => by rw [Nat.add_sub_add_right]
theorem sum_tri (G : Nat → Nat → Rat) : ∀ n, sumN (fun i => sumN (fun j => G j (i - j)) (i + 1)) n = sumN (fun j => sumN (G j) (n - j)) n
  | 0 => rfl
  | n + 1 => by
    have e : sumN (fun j => sumN (G j) (n + 1 - j)) (n + 1) = sumN (fun j => sumN (G j) (n - j) + G j (n - j)) (n + 1) := sum_congr fun j hj => by
      rw [show n + 1 - j = (n - j) + 1 by omega]
      rfl
    rw [e, sum_add]
    show sumN _ n + _ = (sumN (fun j => sumN (G j) (n - j)) n + sumN (G n) (n - n)) + _
    rw [sum_tri G n, Nat.sub_self]
    show _ = (_ + (0 : Rat)) + _
    rw [Rat.add_zero]
theorem sum_more {f : Nat → Rat} {n m : Nat} (l : n ≤ m) (h : ∀ i, n ≤ i → f i = 0) : sumN f m = sumN f n := by
  induction l with
  | refl => rfl
  | step l ih =>
    show sumN f _ + f _ = _
    rw [ih, h _ l, Rat.add_zero]
/-- the product of two series -/
def mulS (f g : Ser) : Ser := fun n => sumN (fun i => f i * g (n - i)) (n + 1)
def addS (f g : Ser) : Ser := fun n => f n + g n
def oneS : Ser := fun n => if n = 0 then 1 else 0
theorem mulS_comm (f g : Ser) : mulS f g = mulS g f := by
  funext n
  show _ = sumN (fun i => g i * f (n - i)) (n + 1)
  rw [← sum_refl]
  exact sum_congr fun i hi => by rw [Rat.mul_comm, show n - (n - i) = i by omega]
theorem mulS_assoc (f g h : Ser) : mulS (mulS f g) h = mulS f (mulS g h) := by
  funext n
  have e1 : mulS (mulS f g) h n = sumN (fun i => sumN (fun j => f j * g (i - j) * h (n - j - (i - j))) (i + 1)) (n + 1) := sum_congr fun i hi => by
    show sumN _ (i + 1) * _ = _
    rw [← sum_mulR]
    exact sum_congr fun j hj => by rw [show n - j - (i - j) = n - i by omega]
  rw [e1, sum_tri (fun j k => f j * g k * h (n - j - k))]
  exact sum_congr fun j hj => by
    show _ = f j * sumN _ (n - j + 1)
    rw [← sum_mul, show n + 1 - j = n - j + 1 by omega]
    exact sum_congr fun k _ => Rat.mul_assoc _ _ _
theorem oneS_mul (f : Ser) : mulS oneS f = f := by
  funext n
  show sumN _ (n + 1) = _
  rw [sum_first]
  show oneS 0 * f (n - 0) + _ = _
  rw [sum_zero fun i _ => by show (0 : Rat) * _ = 0; exact Rat.zero_mul _]
  show 1 * f n + 0 = f n
  rw [Rat.one_mul, Rat.add_zero]
theorem mulS_one (f : Ser) : mulS f oneS = f := by rw [mulS_comm, oneS_mul]
theorem mulS_add (f g h : Ser) : mulS (addS f g) h = addS (mulS f h) (mulS g h) := by
  funext n
  show sumN _ _ = sumN _ _ + sumN _ _
  rw [← sum_add]
  exact sum_congr fun i _ => Rat.add_mul _ _ _
def powS (f : Ser) : Nat → Ser
  | 0 => oneS
  | k + 1 => mulS (powS f k) f
theorem powS_one (f : Ser) : powS f 1 = f := oneS_mul f
theorem powS_add (f : Ser) (a : Nat) : ∀ b, powS f (a + b) = mulS (powS f a) (powS f b)
  | 0 => (mulS_one _).symm
  | b + 1 => by
    show mulS (powS f (a + b)) f = mulS (powS f a) (mulS (powS f b) f)
    rw [powS_add f a b, mulS_assoc]
theorem powS_low {f : Ser} (f0 : f 0 = 0) : ∀ (k n : Nat), n < k → powS f k n = 0
  | k + 1, n, h => sum_zero fun i hi => by
    rcases Nat.lt_or_ge i k with c | c
    · rw [powS_low f0 k i c, Rat.zero_mul]
    · rw [show n - i = 0 by omega, f0, Rat.mul_zero]
/-- a series with a series put in -/
def cmpS (u f : Ser) : Ser := fun n => sumN (fun j => u j * powS f j n) (n + 1)
theorem cmpS_to {u f : Ser} (f0 : f 0 = 0) {n N : Nat} (h : n < N) : sumN (fun j => u j * powS f j n) N = cmpS u f n :=
  sum_more h fun i hi => by rw [powS_low f0 i n hi, Rat.mul_zero]
theorem cmpS_add (u w f : Ser) : cmpS (addS u w) f = addS (cmpS u f) (cmpS w f) := by
  funext n
  show sumN _ _ = sumN _ _ + sumN _ _
  rw [← sum_add]
  exact sum_congr fun i _ => Rat.add_mul _ _ _
theorem cmpS_one (f : Ser) : cmpS oneS f = oneS := by
  funext n
  show sumN _ (n + 1) = _
  rw [sum_first, sum_zero fun i _ => by show (0 : Rat) * _ = 0; exact Rat.zero_mul _]
  show 1 * oneS n + 0 = _
  rw [Rat.one_mul, Rat.add_zero]
theorem cmpS_mul {u w f : Ser} (f0 : f 0 = 0) : cmpS (mulS u w) f = mulS (cmpS u f) (cmpS w f) := by
  funext n
  have e1 : cmpS (mulS u w) f n = sumN (fun j => sumN (fun a => u a * w (j - a) * powS f (a + (j - a)) n) (j + 1)) (n + 1) := sum_congr fun j hj => by
    show sumN _ (j + 1) * _ = _
    rw [← sum_mulR]
    exact sum_congr fun a ha => by rw [show a + (j - a) = j by omega]
  rw [e1, sum_tri (fun a b => u a * w b * powS f (a + b) n)]
  have e2 : mulS (cmpS u f) (cmpS w f) n = sumN (fun i => sumN (fun a => sumN (fun b => u a * w b * (powS f a i * powS f b (n - i))) (n + 1)) (n + 1)) (n + 1) := sum_congr fun i hi => by
    show cmpS u f i * cmpS w f (n - i) = _
    rw [← cmpS_to f0 (u := u) (n := i) (N := n + 1) (by omega), ← cmpS_to f0 (u := w) (n := n - i) (N := n + 1) (by omega), ← sum_mulR]
    refine sum_congr fun a _ => ?_
    rw [← sum_mul]
    exact sum_congr fun b _ => by grind
  have e3 : mulS (cmpS u f) (cmpS w f) n = sumN (fun a => sumN (fun b => u a * w b * powS f (a + b) n) (n + 1)) (n + 1) := by
    rw [e2, sum_swap]
    refine sum_congr fun a _ => ?_
    rw [sum_swap]
    refine sum_congr fun b _ => ?_
    rw [sum_mul, powS_add]
    rfl
  rw [e3]
  refine sum_congr fun a ha => (sum_more (by omega) fun b hb => ?_).symm
  rw [powS_low f0 _ _ (by omega), Rat.mul_zero]
theorem cmpS_zero {u f : Ser} : cmpS u f 0 = u 0 := by
  show (0 : Rat) + u 0 * oneS 0 = _
  show (0 : Rat) + u 0 * 1 = _
  rw [Rat.zero_add, Rat.mul_one]
theorem cmpS_pow {f g : Ser} (g0 : g 0 = 0) : ∀ k, cmpS (powS f k) g = powS (cmpS f g) k
  | 0 => cmpS_one g
  | k + 1 => by
    show cmpS (mulS _ _) g = mulS _ _
    rw [cmpS_mul g0, cmpS_pow g0 k]
theorem cmpS_assoc {u f g : Ser} (f0 : f 0 = 0) (g0 : g 0 = 0) : cmpS (cmpS u f) g = cmpS u (cmpS f g) := by
  funext n
  have e1 : cmpS (cmpS u f) g n = sumN (fun j => sumN (fun a => u a * (powS f a j * powS g j n)) (n + 1)) (n + 1) := sum_congr fun j hj => by
    show cmpS u f j * _ = _
    rw [← cmpS_to f0 (u := u) (n := j) (N := n + 1) hj, ← sum_mulR]
    exact sum_congr fun a _ => Rat.mul_assoc _ _ _
  rw [e1, sum_swap]
  refine sum_congr fun a _ => ?_
  rw [sum_mul, ← cmpS_pow g0]
  rfl
def xS : Ser := fun n => if n = 1 then 1 else 0
theorem cmpS_xl (f : Ser) : ∀ n, 0 < n → cmpS xS f n = f n := fun n h => by
  obtain ⟨m, rfl⟩ : ∃ m, n = m + 1 := ⟨n - 1, by omega⟩
  show sumN _ (m + 1 + 1) = _
  rw [sum_first, sum_first, sum_zero fun i _ => by show (0 : Rat) * _ = 0; exact Rat.zero_mul _]
  show (0 : Rat) * _ + (1 * powS f 1 (m + 1) + 0) = _
  rw [powS_one]
  grind
theorem mulS_x (f : Ser) : ∀ n, mulS f xS (n + 1) = f n := fun n => by
  rw [mulS_comm]
  show sumN _ (n + 1 + 1) = _
  rw [sum_first, sum_first, sum_zero fun i _ => by show (0 : Rat) * _ = 0; exact Rat.zero_mul _]
  show (0 : Rat) * _ + (1 * f n + 0) = _
  grind
theorem powS_x : ∀ k n, powS xS k n = if n = k then 1 else 0
  | 0, n => rfl
  | k + 1, 0 => powS_low rfl (k + 1) 0 (Nat.succ_pos k)
  | k + 1, n + 1 => by
    show mulS (powS xS k) xS (n + 1) = _
    rw [mulS_x, powS_x k n]
    by_cases c : n = k
    · rw [if_pos c, if_pos (by omega)]
    · rw [if_neg c, if_neg (by omega)]
theorem cmpS_xr (u : Ser) : cmpS u xS = u := by
  funext n
  show sumN _ n + u n * powS xS n n = _
  rw [powS_x, if_pos rfl, sum_zero fun i hi => by rw [powS_x, if_neg (by omega), Rat.mul_zero], Rat.zero_add, Rat.mul_one]
/-! only the beginning counts -/
def EqTo (n : Nat) (f g : Ser) : Prop := ∀ i, i < n → f i = g i
theorem EqTo.symm {n : Nat} {f g : Ser} (h : EqTo n f g) : EqTo n g f := fun i hi => (h i hi).symm
theorem EqTo.trans {n : Nat} {f g k : Ser} (h : EqTo n f g) (h' : EqTo n g k) : EqTo n f k := fun i hi => (h i hi).trans (h' i hi)
theorem EqTo.le {n m : Nat} {f g : Ser} (h : EqTo n f g) (l : m ≤ n) : EqTo m f g := fun i hi => h i (by omega)
theorem EqTo.mul {n : Nat} {f g k l : Ser} (h : EqTo n f g) (h' : EqTo n k l) : EqTo n (mulS f k) (mulS g l) := fun i hi => sum_congr fun j hj => by rw [h j (by omega), h' (i - j) (by omega)]
theorem EqTo.pow {n : Nat} {f g : Ser} (h : EqTo n f g) : ∀ k, EqTo n (powS f k) (powS g k)
  | 0 => fun _ _ => rfl
  | k + 1 => (EqTo.pow h k).mul h
theorem EqTo.cmp {n : Nat} {u w f g : Ser} (h : EqTo n u w) (h' : EqTo n f g) : EqTo n (cmpS u f) (cmpS w g) := fun i hi => sum_congr fun j hj => by rw [h j (by omega), h'.pow j i hi]
/-! ### lists as series -/
def ser (qs : List Rat) : Ser := fun i => qs.getD i 0
def toL (n : Nat) (f : Ser) : List Rat := (List.range n).map f
theorem toL_len (n : Nat) (f : Ser) : (toL n f).length = n := by unfold toL; rw [List.length_map, List.length_range]
theorem toL_get {n i : Nat} {f : Ser} (h : i < n) : (toL n f)[i]? = some (f i) := by
  unfold toL
  rw [List.getElem?_map, List.getElem?_range h]
  rfl
theorem ser_toL {n : Nat} {f : Ser} : EqTo n (ser (toL n f)) f := fun i hi => by
  show List.getD _ _ _ = _
  rw [List.getD_eq_getElem?_getD, toL_get hi]
  rfl
theorem toL_ser (qs : List Rat) : toL qs.length (ser qs) = qs := by
  apply List.ext_getElem?
  intro i
  rcases Nat.lt_or_ge i qs.length with c | c
  · rw [toL_get c]
    show some (List.getD _ _ _) = _
    rw [List.getD_eq_getElem?_getD, List.getElem?_eq_getElem c]
    rfl
  · rw [List.getElem?_eq_none c, List.getElem?_eq_none (by rw [toL_len]; exact c)]
theorem toL_eq {n : Nat} {f g : Ser} (h : EqTo n f g) : toL n f = toL n g := List.map_congr_left fun i hi => h i (List.mem_range.mp hi)
theorem toL_inj {n : Nat} {f g : Ser} (h : toL n f = toL n g) : EqTo n f g := fun i hi => by
  have := congrArg (fun l : List Rat => l[i]?) h
  rw [toL_get hi, toL_get hi] at this
  exact Option.some.inj this
theorem cvT_sum (us ws : List Rat) (k : Nat) : ∀ j, cvT us ws k j = sumN (fun i => ser us i * ser ws (k - i)) j
  | 0 => rfl
  | j + 1 => by
    show cvT us ws k j + _ = _
    rw [cvT_sum us ws k j]
    rfl
theorem mulL_ser (us ws : List Rat) : mulL us ws = toL us.length (mulS (ser us) (ser ws)) := List.map_congr_left fun k _ => cvT_sum us ws k (k + 1)
theorem toL_take {n m : Nat} (f : Ser) (h : m ≤ n) : (toL n f).take m = toL m f := by
  unfold toL
  rw [← List.map_take, List.take_range, Nat.min_eq_left h]
theorem mulL_toL {n : Nat} (f g : Ser) : mulL (toL n f) (toL n g) = toL n (mulS f g) := by
  rw [mulL_ser, toL_len]
  exact toL_eq (ser_toL.mul ser_toL)
end Kx
end
section
set_option maxHeartbeats 4000000
namespace Kx
open PySem PySem.Spec PyProof.Rows L2
/-- the sum of the first products -/
def dotT (us ws : List Rat) : Nat → Rat
  | 0 => 0
  | j + 1 => dotT us ws j + us.getD j 0 * ws.getD j 0
theorem dotT_sum (us ws : List Rat) : ∀ n, dotT us ws n = sumN (fun i => ser us i * ser ws i) n
  | 0 => rfl
  | n + 1 => by
    show dotT us ws n + _ = _
    rw [dotT_sum us ws n]
    rfl
def dotL (us ws : List Rat) : Rat := dotT us ws (min us.length ws.length)
theorem dotT_z {L B M C : Nat} {us ws : List Rat} (h : AllD L B us) (h' : AllD M C ws) : ∀ j, Dq (L * M) (B + C + j) (dotT us ws j)
  | 0 => Dq.zero
  | j + 1 => (dotT_z h h' j).add (((h.getD j).mul (h'.getD j)).mono (Nat.le_add_right _ j)) (by omega) (by omega)
theorem prod_up {a b : Rat} {S : Nat} (h : a.den * b.den ∣ S) : ((a.num * b.num * ((S : Int) / ((a.den : Int) * (b.den : Int))) : Int) : Rat) = a * b * (S : Rat) := by
  obtain ⟨k, rfl⟩ := h
  have hd : ((a.den * b.den : Nat) : Int) ≠ 0 := by
    have := Nat.mul_ne_zero a.den_nz b.den_nz
    omega
  have e : (((a.den * b.den * k : Nat) : Int) / ((a.den : Int) * (b.den : Int))) = (k : Int) := by
    rw [← Int.natCast_mul, Int.natCast_mul (a.den * b.den) k, Int.mul_ediv_cancel_left _ hd]
  rw [e]
  have ha := up_val (q := a) (L := a.den) (Nat.dvd_refl _)
  have hb := up_val (q := b) (L := b.den) (Nat.dvd_refl _)
  rw [Int.ediv_self (den_ne a), Int.mul_one] at ha
  rw [Int.ediv_self (den_ne b), Int.mul_one] at hb
  rw [Rat.intCast_mul, Rat.intCast_mul, ha, hb, Rat.natCast_mul, Rat.natCast_mul]
  have : ((k : Int) : Rat) = (k : Rat) := rfl
  rw [this]
  grind
theorem quo_up {u : Int} {L S : Nat} {r : Rat} (h : L ∣ S) (L0 : 0 < L) (hu : (u : Rat) = r * (L : Rat)) : ((u * ((S : Int) / (L : Int)) : Int) : Rat) = r * (S : Rat) := by
  obtain ⟨k, rfl⟩ := h
  have e : (((L * k : Nat) : Int) / (L : Int)) = (k : Int) := by
    rw [Int.natCast_mul, Int.mul_ediv_cancel_left _ (by omega)]
  rw [e, Rat.intCast_mul, hu, Rat.natCast_mul]
  have : ((k : Int) : Rat) = (k : Rat) := rfl
  rw [this]
  grind
theorem div_of {u : Int} {L : Nat} {r : Rat} (L0 : 0 < L) (hu : (u : Rat) = r * (L : Rat)) : Rat.divInt u (L : Int) = r := by
  rw [Rat.divInt_eq_div, hu]
  have lz : (L : Rat) ≠ 0 := by
    intro z
    have : L = 0 := by exact_mod_cast z
    omega
  show r * (L : Rat) / (((L : Int)) : Rat) = r
  have : (((L : Int)) : Rat) = (L : Rat) := rfl
  rw [this]
  grind
def spDot (K : PySem.W.Frag) : Sp := fun vs H Q _ => ∃ (x y : V) (qs rs : List Rat) (L B M C : Nat), vs = [x, y] ∧ Ls K H x qs ∧ Ls K H y rs ∧ min qs.length rs.length ≤ 32 ∧ SmL L ∧ B ≤ 100000 ∧ SmL M ∧ C ≤ 100000 ∧ AllD L B qs ∧ AllD M C rs ∧ GivesQ H Q (dotL qs rs)
abbrev nDt : List Str := ["ones", "others", "upper", "lower", "a", "b", "c", "d", "shared"]
section
variable {P : Program} {w : World} {K : PySem.W.Frag} {mg : Str → Option Value} {base : Heap} {f fL o0 : Addr} {fd fdL : FuncData}
theorem scDt : FnScope nDt ["ones", "others"] (defScope F_dot) := ⟨rfl, rfl, rfl, by decide +kernel, rfl, by decide +kernel, by decide +kernel⟩
theorem ok_dot (F : Fun K "dot" "dot" F_dot f fd) (mz : mg "zip" = none) (mLc : mg "lcm" = some (.builtin "math.lcm")) (UR : Use P w K mg base CX0 1 "ratio" ["upper", "lower"] spLowQ []) : FnOk P w K mg base CX0 2 f fd ["ones", "others"] (spDot K) := by
  refine F.ok scDt (fun vs H Q E h => ?_) (fun cdv A outer s H vs Q E hr h => ?_)
  · obtain ⟨x, y, qs, rs, L, B, M, C, rfl, _⟩ := h
    rfl
  obtain ⟨x, y, qs, rs, LL, B, MM, C, rfl, ⟨xa, xs, rfl, hx, nx⟩, ⟨ya, ys, rfl, hy, ny⟩, l1, sL, lB, sM, lC, bq, br, q⟩ := h
  have LMb : LL * MM < 2 ^ 8900 := by
    rw [show (8900 : Nat) = 4450 + 4450 by rfl, Nat.pow_add]
    exact Nat.mul_lt_mul'' sL.2 sM.2
  have lcm_lt : ∀ {L : Nat}, L ∣ LL * MM → L < 2 ^ 8900 := fun h => Nat.lt_of_le_of_lt (Nat.le_of_dvd (Nat.mul_pos sL.1 sM.1) h) LMb
  refine ⟨_, pss_cons (ps_asg (pe_tup (pa_cons pe_int (pa_cons pe_int pa_nil))) (pg_tup rfl (pgs_cons (pg_name (i := 2) scDt.nd rfl (Or.inl rfl)) (pgs_cons (pg_name (i := 3) scDt.nd rfl (Or.inl rfl)) pgs_nil))))
    (pss_cons (ps_for PassesOwn.never rfl (pi_zip rfl mz (pa_cons (pv 0) (pa_cons (pv 1) pa_nil))) (pg_tup rfl (pgs_cons (pg_tup rfl (pgs_cons (pg_name (i := 4) scDt.nd rfl (Or.inl rfl)) (pgs_cons (pg_name (i := 5) scDt.nd rfl (Or.inl rfl)) pgs_nil))) (pgs_cons (pg_tup rfl (pgs_cons (pg_name (i := 6) scDt.nd rfl (Or.inl rfl)) (pgs_cons (pg_name (i := 7) scDt.nd rfl (Or.inl rfl)) pgs_nil))) pgs_nil)))
      (pss_one (ps_if (PW.pt (pw_and (pt_cmpR op_ne (pv 4) pe_int (nomark _)) (pw_and1 (pt_cmpR op_ne (pv 6) pe_int (nomark _)))))
        (pss_cons (ps_set (i := 8) scDt.nd rfl (Or.inl rfl) (pe_callBfun cr_lcm rfl mLc (pa_cons (pv 3) (pa_cons (pe_op op_mulW (pv 5) (pv 7)) pa_nil))))
        (pss_cons (ps_set (i := 2) scDt.nd rfl (Or.inl rfl) (pe_op op_add (pe_op op_mulW (pv 2) (pe_op op_fdivA (pv 8) (pv 3))) (pe_op op_mulW (pe_op op_mulW (pv 4) (pv 6)) (pe_op op_fdivA (pv 8) (pe_op op_mulW (pv 5) (pv 7))))))
        (pss_one (ps_set (i := 3) scDt.nd rfl (Or.inl rfl) (pv 8))))) pss_nil)))
    (pss_one (ps_ret (pe_use UR hr rfl pass0 (pa_cons (pv 2) (pa_cons (pv 3) pa_nil)))))), ?_⟩
  refine ⟨(by show 2 ≤ sizeLine; decide), fun t0 n0 => ?_⟩
  have s0 := new_same n0 (HO.tup [.int 0, .int 1])
  refine ⟨t0, _, rfl, SqT.of upd_same, rfl, _, _, rfl, _, _, rfl, rfl, ?_⟩
  generalize upd H t0 (HO.tup [.int 0, .int 1]) = H0 at s0
  have lx : xs.length = qs.length := nx.1
  have ly : ys.length = rs.length := ny.1
  refine ⟨_, rfl, _, rfl, xa, ya, xs, ys, rfl, SqL.of (s0 _ _ hx), SqL.of (s0 _ _ hy), ?_⟩
  refine for_it (walk_zip (K := K) (a := xa) (b := ya) (xs := xs) (ys := ys) (n := min xs.length ys.length) rfl) (fun i σ H' => Same H H' ∧ ∃ (u : Int) (L : Nat) (v4 v5 v6 v7 v8 : Option V), σ = [some (.ref xa), some (.ref ya), some (.int u), some (.int (L : Nat)), v4, v5, v6, v7, v8] ∧ L ∣ LL * MM ∧ (u : Rat) = dotT qs rs i * (L : Rat)) ⟨s0, 0, 1, none, none, none, none, none, rfl, Nat.one_dvd _, (by show ((0 : Int) : Rat) = 0 * _; rw [Rat.zero_mul]; rfl)⟩ (fun i σ H' _ h => ⟨SqL.of (h.1 _ _ hx), SqL.of (h.1 _ _ hy)⟩) ?_ ?_
  · rintro i z σ H3 H4 hi ⟨s3, u, L, v4, v5, v6, v7, v8, rfl, dL, hu⟩ ⟨T, y, z, rfl, hT, rfl, ey, ez⟩
    have sT := new_same hT (.tup [y, z])
    obtain ⟨a, ea, na⟩ := nx.get ey
    obtain ⟨b, eb, nb⟩ := ny.get ez
    obtain ⟨va, rfl, sa, _⟩ := (na.same (s3.trans sT)).sq
    obtain ⟨vb, rfl, sb, _⟩ := (nb.same (s3.trans sT)).sq
    have za := bq a (List.mem_of_getElem? ea)
    have zb := br b (List.mem_of_getElem? eb)
    have ba : Ok a := za.ok sL lB
    have bb : Ok b := zb.ok sM lC
    have L0 : 0 < L := Nat.pos_of_dvd_of_pos dL (Nat.mul_pos sL.1 sM.1)
    have nxt : dotT qs rs (i + 1) = dotT qs rs i + a * b := by
      show _ + List.getD _ _ _ * List.getD _ _ _ = _
      rw [List.getD_eq_getElem?_getD, List.getD_eq_getElem?_getD, ea, eb]
      rfl
    refine ⟨T, _, rfl, SqT.of upd_same, rfl, _, _, rfl, va, _, rfl, sa, rfl, _, _, rfl, _, _, rfl, rfl, _, _, rfl, vb, _, rfl, sb, rfl, _, _, rfl, _, _, rfl, rfl, rfl, ?_⟩
    have skip : a * b = 0 → L ∣ LL * MM ∧ (u : Rat) = dotT qs rs (i + 1) * (L : Rat) := fun z => ⟨dL, by rw [nxt, z, Rat.add_zero]; exact hu⟩
    refine ⟨_, rfl, rfl, _, rfl, ?_⟩
    by_cases ca : a.num = 0
    · have z : a = 0 := Rat.num_eq_zero.mp ca
      rw [decide_eq_true (congrArg V.int ca)]
      exact iteF (iteF ⟨s3.trans sT, u, L, _, _, _, _, _, rfl, skip (by rw [z, Rat.zero_mul])⟩)
    rw [decide_eq_false (fun e => ca (V.int.inj e))]
    refine iteT ⟨_, rfl, rfl, _, rfl, ?_⟩
    by_cases cb : b.num = 0
    · have z : b = 0 := Rat.num_eq_zero.mp cb
      rw [decide_eq_true (congrArg V.int cb)]
      exact iteF ⟨s3.trans sT, u, L, _, _, _, _, _, rfl, skip (by rw [z, Rat.mul_zero])⟩
    rw [decide_eq_false (fun e => cb (V.int.inj e))]
    have dd : a.den * b.den ∣ LL * MM := by
      exact Nat.mul_dvd_mul (za.dvd sL.1) (zb.dvd sM.1)
    have d0 : 0 < a.den * b.den := Nat.pos_of_dvd_of_pos dd (Nat.mul_pos sL.1 sM.1)
    have Lb := lcm_lt dL
    have db := lcm_lt dd
    have S0 : Nat.lcm L (a.den * b.den) ∣ LL * MM := Nat.lcm_dvd dL dd
    have d1 := Nat.dvd_lcm_left L (a.den * b.den)
    have d2 := Nat.dvd_lcm_right L (a.den * b.den)
    have Sb := lcm_lt S0
    refine iteT ⟨_, rfl, _, rfl, _, rfl, _, _, rfl, rfl, wide_mul ba.dn bb.dn (by decide) (by decide) (by decide), L, a.den * b.den, rfl, Nat.lt_of_lt_of_le Lb (Nat.pow_le_pow_right (by decide) (by decide)), Nat.lt_of_lt_of_le db (Nat.pow_le_pow_right (by decide) (by decide)), L0, d0, ?_⟩
    have ub : u.natAbs < 2 ^ 300000 := Nat.lt_of_lt_of_le ((dotT_z bq br i).part (Nat.mul_pos sL.1 sM.1) dL hu) (Nat.pow_le_pow_right (by decide) (by omega))
    generalize Nat.lcm L (a.den * b.den) = S at *
    have cd : ((S : Nat) : Int) / ((L : Nat) : Int) = ((S / L : Nat) : Int) := rfl
    have ce : ((S : Nat) : Int) / (((a.den : Nat) : Int) * ((b.den : Nat) : Int)) = ((S / (a.den * b.den) : Nat) : Int) := rfl
    have q1 := quo_up d1 L0 hu
    have q2 := prod_up (a := a) (b := b) d2
    refine ⟨_, rfl, _, rfl, _, rfl, (S : Nat), (L : Nat), rfl, rfl, ⟨by omega, Nat.lt_trans (log_bd (by rw [Int.natAbs_natCast]; exact Lb) (by decide)) (by decide)⟩, _, _, rfl, rfl, ?_, ?_⟩
    · rw [Int.fdiv_eq_ediv_of_nonneg _ (by omega), cd]
      refine wide_mul (b := 8900) ub ?_ (by decide) (by decide) (by decide)
      rw [Int.natAbs_natCast]
      exact Nat.lt_of_le_of_lt (Nat.div_le_self _ _) Sb
    refine ⟨_, rfl, _, rfl, a.num, b.num, rfl, rfl, wide_mul ba.1 bb.1 (by decide) (by decide) (by decide), _, rfl, _, rfl, _, rfl, (a.den : Nat), (b.den : Nat), rfl, rfl, wide_mul ba.dn bb.dn (by decide) (by decide) (by decide), (S : Nat), _, rfl, rfl, ⟨by omega, Nat.lt_trans (log_bd (n := 8900) (by rw [← Int.natCast_mul, Int.natAbs_natCast]; exact db) (by decide)) (by decide)⟩, _, _, rfl, rfl, ?_, ?_⟩
    · rw [Int.fdiv_eq_ediv_of_nonneg _ (by omega), ce]
      refine wide_mul (b := 8900) (lt_mul ba.1 bb.1) ?_ (by decide) (by decide) (by decide)
      rw [Int.natAbs_natCast]
      exact Nat.lt_of_le_of_lt (Nat.div_le_self _ _) Sb
    rw [Int.fdiv_eq_ediv_of_nonneg _ (by omega), Int.fdiv_eq_ediv_of_nonneg _ (by omega)]
    refine ⟨_, _, rfl, rfl, _, rfl, s3.trans sT, _, S, _, _, _, _, _, rfl, S0, ?_⟩
    rw [nxt, Rat.intCast_add, q1, q2]
    grind
  · rintro σ H3 ⟨s3, u, L, v4, v5, v6, v7, v8, rfl, dL, hu⟩
    have L0 : 0 < L := Nat.pos_of_dvd_of_pos dL (Nat.mul_pos sL.1 sM.1)
    rw [lx, ly] at hu
    refine ⟨_, rfl, _, rfl, u, (L : Nat), rfl, by omega, Nat.lt_trans (log_bd (n := 8900) (by rw [Int.natAbs_natCast]; exact lcm_lt dL) (by decide)) (by decide), fun t H4 s4 n4 h4 => ?_⟩
    rw [div_of L0 hu] at h4
    exact q t H4 (s3.trans s4) (s3.free n4) h4
end
end Kx
end
section
set_option maxHeartbeats 4000000
namespace Kx
open PySem PySem.Spec PyProof.Rows L2
/-! ### lists of lists -/
def Lsl (K : PySem.W.Frag) (H : Hp) (xs : List V) (rows : List (List Rat)) : Prop := xs.length = rows.length ∧ ∀ (i : Nat) (x : V) (r : List Rat), xs[i]? = some x → rows[i]? = some r → Ls K H x r
def Lss (K : PySem.W.Frag) (H : Hp) (v : V) (rows : List (List Rat)) : Prop := ∃ a xs, v = .ref a ∧ H a = some (.lst xs) ∧ Lsl K H xs rows
def GivesLL (K : PySem.W.Frag) (H : Hp) (Q : VK) (rows : List (List Rat)) : Prop := ∀ b H' xs, Same H H' → H b = none → H' b = some (.lst xs) → Lsl K H' xs rows → Q (.ref b) H'
section
variable {K : PySem.W.Frag} {H H' : Hp}
theorem Lsl.same {xs : List V} {rows : List (List Rat)} (h : Lsl K H xs rows) (s : Same H H') : Lsl K H' xs rows := ⟨h.1, fun i x r h1 h2 => (h.2 i x r h1 h2).same s⟩
theorem Lss.same {v : V} {rows : List (List Rat)} (h : Lss K H v rows) (s : Same H H') : Lss K H' v rows := by
  obtain ⟨a, xs, e, h1, h2⟩ := h
  exact ⟨a, xs, e, s _ _ h1, h2.same s⟩
theorem Lsl.get {xs : List V} {rows : List (List Rat)} (h : Lsl K H xs rows) {i : Nat} {x : V} (hx : xs[i]? = some x) : ∃ r, rows[i]? = some r ∧ Ls K H x r := by
  have hi : i < xs.length := by
    rcases Nat.lt_or_ge i xs.length with c | c
    · exact c
    · rw [List.getElem?_eq_none c] at hx; cases hx
  have e := List.getElem?_eq_getElem (l := rows) (i := i) (by rw [← h.1]; exact hi)
  exact ⟨_, e, h.2 i x _ hx e⟩
theorem Lsl.get' {xs : List V} {rows : List (List Rat)} (h : Lsl K H xs rows) {i : Nat} (hi : i < rows.length) : ∃ x, xs[i]? = some x ∧ Ls K H x rows[i] := by
  have e := List.getElem?_eq_getElem (l := xs) (i := i) (by rw [h.1]; exact hi)
  exact ⟨_, e, h.2 i _ _ e (List.getElem?_eq_getElem hi)⟩
theorem Lsl.snoc {xs : List V} {rows : List (List Rat)} {x : V} {r : List Rat} (h : Lsl K H xs rows) (hx : Ls K H x r) : Lsl K H (xs ++ [x]) (rows ++ [r]) := by
  refine ⟨by rw [List.length_append, List.length_append, h.1]; rfl, fun i y s h1 h2 => ?_⟩
  by_cases c : i < xs.length
  · rw [List.getElem?_append_left c] at h1
    rw [List.getElem?_append_left (by rw [← h.1]; exact c)] at h2
    exact h.2 i y s h1 h2
  · rw [List.getElem?_append_right (by omega)] at h1
    rw [List.getElem?_append_right (by rw [← h.1]; omega), ← h.1] at h2
    match hj : i - xs.length, h1, h2 with
    | 0, h1, h2 =>
      rw [← Option.some.inj (show some x = some y from h1), ← Option.some.inj (show some r = some s from h2)]
      exact hx
    | _ + 1, h1, _ => simp at h1
theorem Ls.butL {v : V} {qs : List Rat} {D : Addr} {l : List V} (h : Ls K H v qs) (hD : H D = some (.lst l)) (n : v ≠ .ref D) (s : But D H H') : Ls K H' v qs := by
  obtain ⟨a, xs, rfl, h1, h2⟩ := h
  exact ⟨a, xs, rfl, s _ _ (fun e => n (by rw [e])) h1, h2.1, fun i x q e1 e2 => (h2.2 i x q e1 e2).butL hD s⟩
end
theorem pil_at {X : Cx} {tg l : Expr} {tl : TE} (K : PySem.W.Frag) (h : X.K = K) (hl : PE X l tl) : PI X tg l (iList K tl) := by
  subst h
  exact pi_list hl
def mixL (n : Nat) (qs : List Rat) (rows : List (List Rat)) : List Rat := (List.range n).map fun i => dotL qs (rows.map fun r => r.getD i 0)
theorem mixL_len (n : Nat) (qs : List Rat) (rows : List (List Rat)) : (mixL n qs rows).length = n := by unfold mixL; rw [List.length_map, List.length_range]
def spMix (K : PySem.W.Frag) : Sp := fun vs H Q _ => ∃ (x y : V) (qs : List Rat) (rows : List (List Rat)) (n L B M C : Nat), vs = [x, y] ∧ Ls K H x qs ∧ Lss K H y rows ∧ 1 ≤ rows.length ∧ rows.length ≤ 32 ∧ n ≤ 30 ∧ (∀ r ∈ rows, r.length = n) ∧ SmL L ∧ B ≤ 100000 ∧ SmL M ∧ C ≤ 100000 ∧ AllD L B qs ∧ (∀ r ∈ rows, AllD M C r) ∧ GivesL K H Q (mixL n qs rows)
abbrev scMi : Scope := { kind := .function, names := [(".0", .local), ("at", .cell), ("dot", .globalImplicit), ("factors", .cell), ("lists", .cell)], isGenerator := false, isCoroutine := false }
abbrev nMx : List Str := ["factors", "lists", "at", "numbers"]
section
variable {P : Program} {w : World} {K : PySem.W.Frag} {mg : Str → Option Value} {base : Heap} {f fL o0 : Addr} {fd fdL : FuncData}
theorem scMx : FnScope nMx ["factors", "lists"] (defScope F_mixed) := ⟨rfl, rfl, rfl, by decide +kernel, rfl, by decide +kernel, by decide +kernel⟩
theorem ok_mixed (F : Fun K "mixed" "mixed" F_mixed f fd) (mn : mg "len" = none) (mr : mg "range" = none) (UD : Use P w K mg base CX0 2 "dot" ["ones", "others"] (spDot K) []) : FnOk P w K mg base CX0 3 f fd ["factors", "lists"] (spMix K) := by
  refine F.ok scMx (fun vs H Q E h => ?_) (fun cdv A outer s H vs Q E hr h => ?_)
  · obtain ⟨x, y, qs, rows, n, L, B, M, C, rfl, _⟩ := h
    rfl
  obtain ⟨x, y, qs, rows, n, L, B, M, C, rfl, lx, ly, r1, r32, n30, rn, sL, lB, sM, lC, bq, br, q⟩ := h
  refine ⟨_, pss_one (ps_ret (pe_lc (own := [("at", 2)]) (g := gName 2) (tt := tYes) rfl scMx.nd (pi_range1 rfl mr (pa_cons (pe_callB call_len_seq rfl mn PySem.boot_len (pa_cons (pe_ix ix_list (pv 1) pe_int (fun _ _ => rfl)) pa_nil)) pa_nil)) (blkOk_by (N := nMx) (sc := defScope F_mixed) (by decide +kernel))
      (fun _ _ _ _ _ => pg_name (i := 2) scMx.nd rfl (Or.inr rfl)) (fun _ _ _ _ _ => pts_nil)
      (fun _ _ _ _ _ => pe_use UD hr rfl pass0 (pa_cons (pv 0) (pa_cons (pe_lc (own := [("numbers", 3)]) (g := gName 3) (tt := tYes) rfl scMx.nd (pil_at K rfl (pv 1)) (blkOk_by (N := nMx) (sc := scMi) (by decide +kernel))
        (fun _ _ _ _ _ => pg_name (i := 3) scMx.nd rfl (Or.inl rfl)) (fun _ _ _ _ _ => pts_nil) (fun _ _ _ _ _ => pe_ix (ixl_at K rfl) (pv 3) (pv 2) (fun _ _ => rfl))) pa_nil))))), ?_⟩
  obtain ⟨xa, xs, rfl, hx, nx⟩ := lx
  obtain ⟨ya, ys, rfl, hy, ny⟩ := ly
  have l0 := ny.1
  obtain ⟨y0, e0', hy0⟩ := ny.get' (i := 0) (by omega)
  obtain ⟨za, zs, rfl, hz, nz⟩ := hy0
  have zl : zs.length = n := by rw [nz.1]; exact rn _ (List.getElem_mem _)
  refine ⟨_, rfl, ya, ys, 0, _, rfl, rfl, SqL.of hy, at_of (j := 0) rfl e0', za, zs, rfl, .inl (SqL.of hz), ?_⟩
  refine ⟨_, rfl, by omega, by omega, fun D nD => ?_⟩
  rw [zl]
  refine lc_nums (K := K) (walk_range (lo := 0) (n := (((n : Nat) : Int)).toNat)) (mixL n qs rows) (by rw [mixL_len, Int.toNat_natCast]) nD (by omega) (fun _ _ => trivial) ?_ (fun H' zs s h m => q D H' zs s nD h m)
  rintro i r x H2 H3 k hq s2 ⟨rfl, rfl⟩ hk
  have hi : i < n := by
    rcases Nat.lt_or_ge i n with c | c
    · exact c
    · rw [List.getElem?_eq_none (by rw [mixL_len]; exact c)] at hq; cases hq
  have er : dotL qs (rows.map fun r => r.getD i 0) = r := by
    unfold mixL at hq
    rw [List.getElem?_map, List.getElem?_range hi] at hq
    exact Option.some.inj hq
  refine ⟨rfl, _, rfl, _, rfl, ya, rfl, ⟨_, SqL.of (s2 _ _ hy)⟩, fun D2 nD2 => ?_⟩
  refine lc_nums (K := K) (walk_list (K := K) (a := ya) (xs := ys)) (rows.map fun r => r.getD i 0) (by rw [List.length_map]; omega) nD2 (by omega) (fun H' s => SqL.of (s _ _ (s2 _ _ hy))) ?_ ?_
  · rintro j r' x H4 H5 k2 hq2 s4 ⟨rfl, hx2⟩ hk2
    obtain ⟨row, erow, lrow⟩ := ny.get hx2
    obtain ⟨ra, rxs, rfl, hrx, nrx⟩ := lrow
    rw [List.getElem?_map, erow] at hq2
    have e2 : row.getD i 0 = r' := Option.some.inj hq2
    have rl := rn row (List.mem_of_getElem? erow)
    obtain ⟨z, ez, nz2⟩ := nrx.get' (i := i) (by omega)
    have e3 : row[i] = r' := by rw [← e2, List.getD_eq_getElem?_getD, List.getElem?_eq_getElem (by omega)]; rfl
    rw [e3] at nz2
    exact ⟨rfl, _, rfl, _, rfl, ra, rxs, 0 + (i : Int), z, rfl, rfl, SqL.of (s4 _ _ (s2 _ _ hrx)), at_of (j := i) (by omega) ez, hk2 _ _ (Same.refl _) (nz2.same (s2.trans s4))⟩
  · intro H4 ws s4 h4 m4
    refine ⟨_, _, qs, _, L, B, M, C, rfl, ⟨xa, xs, rfl, s4 _ _ (s2 _ _ hx), nx.same (s2.trans s4)⟩, ⟨D2, ws, rfl, h4, m4⟩, ?_, sL, lB, sM, lC, bq, ?_, ?_⟩
    · rw [List.length_map]
      omega
    · intro p hp
      obtain ⟨row, hrow, rfl⟩ := List.mem_map.mp hp
      exact (br row hrow).getD i
    · intro t H5 s5 n5 h5
      rw [er] at h5
      exact hk _ _ (s4.trans s5) (.at h5)
end
end Kx
end
section
set_option maxHeartbeats 4000000
namespace Kx
open PySem PySem.Spec PyProof.Rows L2
theorem sll_at {X : Cx} (K : PySem.W.Frag) (h : X.K = K) : SlR X (rSlL K) := by
  subst h
  exact sl_list
/-- .. with the new list seen at each turn -/
theorem lc_accD {J : It} {n : Nat} {G : Hp → Prop} {Y : Nat → Hp → V → Hp → Prop} (w : Walk J n G Y) {g : TG} {te : TE} {vs : List Nat} {σ : L2.St} {H1 : Hp} {D : Addr} {Qd : Hp → Prop} (R : Nat → Hp → V → Prop)
    (mono : ∀ i H H' y l, R i H y → H D = some (.lst l) → But D H H' → R i H' y) (nD : H1 D = none) (hn : n ≤ 900) (hG : ∀ H, Same H1 H → G H)
    (hs : ∀ i x H H' (k : V → Hp → Prop), i < n → Same H1 H → (∃ l, H D = some (.lst l)) → Y i H x H' → (∀ y H4, Same H H4 → R i H4 y → k y H4) → g x (wipe σ vs) H' fun σ2 H2 => wipe σ2 vs = wipe σ vs ∧ te σ2 H2 k)
    (hd : ∀ H xs, Same H1 H → H D = some (.lst xs) → xs.length = n → (∀ (i : Nat) y, xs[i]? = some y → R i H y) → Qd H) :
    ∃ W : Nat → Nat → Hp → Prop, (∃ m, W 0 m (upd H1 D (.lst []))) ∧ ∀ i m H, W i m H →
      (J.stop i H ∧ Qd H) ∨ (J.go i H ∧ ∃ Nx : Hp → Prop, (∀ H', Nx H' → ∃ m', m' < m ∧ W (i + 1) m' H') ∧ ∀ x H', J.yld i H x H' → g x (wipe σ vs) H' fun σ2 H2 => wipe σ2 vs = wipe σ vs ∧ tYes σ2 H2 fun b H3 =>
        if b = true then te σ2 H3 fun y H4 => ∃ acc, H4 D = some (.lst acc) ∧ acc.length < sizeLine ∧ Nx (upd H4 D (.lst (acc ++ [y]))) else Nx H3) := by
  refine lc_it w (fun i H => Same H1 H ∧ ∃ xs, H D = some (.lst xs) ∧ xs.length = i ∧ ∀ (j : Nat) y, xs[j]? = some y → R j H y) ⟨new_same nD _, [], upd_same, rfl, fun j y h => by simp at h⟩ (fun i H _ h => hG H h.1) ?_ ?_
  · rintro i x H H' hi ⟨s1, xs, hx, hl, hR⟩ y
    have z := hs i x H H' (fun y H4 => ∃ acc, H4 D = some (.lst acc) ∧ acc.length < sizeLine ∧ (Same H1 (upd H4 D (.lst (acc ++ [y]))) ∧ ∃ xs, (upd H4 D (.lst (acc ++ [y]))) D = some (.lst xs) ∧ xs.length = i + 1 ∧ ∀ (j : Nat) z, xs[j]? = some z → R j (upd H4 D (.lst (acc ++ [y]))) z)) hi s1 ⟨xs, hx⟩ y (fun y H4 s4 r4 => ?_)
    · exact z
    · have h4 := s4 _ _ hx
      refine ⟨xs, h4, small1000 (by omega), fun e o h => ?_, xs ++ [y], upd_same, by rw [List.length_append, hl]; rfl, fun j z hz => ?_⟩
      · rw [upd_ne (ne_of_none h nD)]
        exact s4 _ _ (s1 _ _ h)
      · have sm : But D H4 (upd H4 D (.lst (xs ++ [y]))) := fun e o n h => by rw [upd_ne n]; exact h
        by_cases c : j < xs.length
        · rw [List.getElem?_append_left c] at hz
          exact mono j H _ z _ (hR j z hz) hx ((But.same s4).trans sm)
        · rw [List.getElem?_append_right (by omega)] at hz
          match hj : j - xs.length, hz with
          | 0, hz =>
            rw [← Option.some.inj (show some y = some z from hz)]
            obtain rfl : j = i := by omega
            exact mono j H4 _ _ _ r4 h4 sm
          | _ + 1, hz => simp at hz
  · rintro H ⟨s1, xs, hx, hl, hR⟩
    exact hd H xs s1 hx hl hR
/-- .. lists of numbers -/
theorem lc_rows {K : PySem.W.Frag} {J : It} {n : Nat} {G : Hp → Prop} {Y : Nat → Hp → V → Hp → Prop} (w : Walk J n G Y) {g : TG} {te : TE} {vs : List Nat} {σ : L2.St} {H1 : Hp} {D : Addr} {Qd : Hp → Prop} (rows : List (List Rat))
    (hl : rows.length = n) (nD : H1 D = none) (hn : n ≤ 900) (hG : ∀ H, Same H1 H → G H)
    (hs : ∀ i r x H H' (k : V → Hp → Prop), rows[i]? = some r → Same H1 H → Y i H x H' → (∀ b H4, Same H H4 → H b = none → Ls K H4 (.ref b) r → k (.ref b) H4) → g x (wipe σ vs) H' fun σ2 H2 => wipe σ2 vs = wipe σ vs ∧ te σ2 H2 k)
    (hd : ∀ H xs, Same H1 H → H D = some (.lst xs) → Lsl K H xs rows → (∀ x ∈ xs, x ≠ .ref D) → Qd H) :
    ∃ W : Nat → Nat → Hp → Prop, (∃ m, W 0 m (upd H1 D (.lst []))) ∧ ∀ i m H, W i m H →
      (J.stop i H ∧ Qd H) ∨ (J.go i H ∧ ∃ Nx : Hp → Prop, (∀ H', Nx H' → ∃ m', m' < m ∧ W (i + 1) m' H') ∧ ∀ x H', J.yld i H x H' → g x (wipe σ vs) H' fun σ2 H2 => wipe σ2 vs = wipe σ vs ∧ tYes σ2 H2 fun b H3 =>
        if b = true then te σ2 H3 fun y H4 => ∃ acc, H4 D = some (.lst acc) ∧ acc.length < sizeLine ∧ Nx (upd H4 D (.lst (acc ++ [y]))) else Nx H3) := by
  refine lc_accD w (fun i H y => y ≠ .ref D ∧ ∀ r, rows[i]? = some r → Ls K H y r) (fun i H H' y l h hD s => ⟨h.1, fun r hr => (h.2 r hr).butL hD h.1 s⟩) nD hn hG (fun i x H H' k hi s hD y hk => ?_) (fun H xs s h l hR => hd H xs s h ⟨by rw [l, hl], fun i x q h1 h2 => (hR i x h1).2 q h2⟩ fun x hx => ?_)
  · have e := List.getElem?_eq_getElem (l := rows) (i := i) (by omega)
    obtain ⟨l, hl⟩ := hD
    refine hs i _ x H H' k e s y fun b H4 s4 n4 r4 => hk _ H4 s4 ⟨fun z => ?_, fun q hq => ?_⟩
    · rw [V.ref.inj z, hl] at n4
      cases n4
    · rw [e] at hq
      rw [← Option.some.inj hq]
      exact r4
  · obtain ⟨i, hi⟩ := List.getElem?_of_mem hx
    exact (hR i x hi).1
def powL (u : List Rat) : Nat → List Rat
  | 0 => u
  | k + 1 => mulL (powL u k) u
theorem mulL_len (u w : List Rat) : (mulL u w).length = u.length := by unfold mulL; rw [List.length_map, List.length_range]
theorem powL_len (u : List Rat) : ∀ k, (powL u k).length = u.length
  | 0 => rfl
  | k + 1 => by
    show (mulL _ _).length = _
    rw [mulL_len, powL_len u k]
theorem powL_toL {n : Nat} (f : Ser) : ∀ k, powL (toL n f) k = toL n (powS f (k + 1))
  | 0 => by
    show toL n f = toL n (powS f 1)
    rw [powS_one]
  | k + 1 => by
    show mulL (powL (toL n f) k) (toL n f) = toL n (mulS (powS f (k + 1)) f)
    rw [powL_toL f k, mulL_toL]
def tabL (qs : List Rat) : List (List Rat) := (List.range qs.length).map fun k => (powL (0 :: qs) k).drop 1
theorem tabL_len (qs : List Rat) : (tabL qs).length = qs.length := by unfold tabL; rw [List.length_map, List.length_range]
theorem tabL_row {qs : List Rat} : ∀ r ∈ tabL qs, r.length = qs.length := fun r hr => by
  obtain ⟨k, _, rfl⟩ := List.mem_map.mp hr
  rw [List.length_drop, powL_len]
  rfl
/-- all powers over one lower part -/
def PowD (L B : Nat) (rs : List Rat) : Prop := ∀ k, k < rs.length → AllD L B (powL (0 :: rs) k)
theorem tabL_d {L B : Nat} {rs : List Rat} (h : PowD L B rs) : ∀ r ∈ tabL rs, AllD L B r := fun r hr => by
  unfold tabL at hr
  obtain ⟨k, hk, rfl⟩ := List.mem_map.mp hr
  exact fun q hq => h k (List.mem_range.mp hk) q (List.mem_of_mem_drop hq)
def spTab (K : PySem.W.Frag) : Sp := fun vs H Q _ => ∃ (x : V) (qs : List Rat) (L B : Nat), vs = [x] ∧ Ls K H x qs ∧ 1 ≤ qs.length ∧ qs.length ≤ 24 ∧ SmL L ∧ B ≤ 100000 ∧ PowD L B qs ∧ GivesLL K H Q (tabL qs)
abbrev nTb : List Str := ["numbers", "step", "powers", "power"]
section
variable {P : Program} {w : World} {K : PySem.W.Frag} {mg : Str → Option Value} {base : Heap} {f fL o0 : Addr} {fd fdL : FuncData}
theorem scTb : FnScope nTb ["numbers"] (defScope F_table_lines) := ⟨rfl, rfl, rfl, by decide +kernel, rfl, by decide +kernel, by decide +kernel⟩
theorem ok_tab (F : Fun K "table_lines" "table_lines" F_table_lines f fd) (k0 : KP K o0 0 1) (mZ : mg "ZERO" = some (.ref o0)) (mn : mg "len" = none) (UM : Use P w K mg base CX0 2 "multiplied" ["one", "other"] (spMulL K) []) : FnOk P w K mg base CX0 3 f fd ["numbers"] (spTab K) := by
  refine F.ok scTb (fun vs H Q E h => ?_) (fun cdv A outer s H vs Q E hr h => ?_)
  · obtain ⟨x, qs, L, B, rfl, _⟩ := h
    rfl
  obtain ⟨x, qs, L, B, rfl, ⟨xa, xs, rfl, hx, nx⟩, l1, l24, sL, lB, bq, q⟩ := h
  refine ⟨_, pss_cons (ps_set (i := 1) scTb.nd rfl (Or.inl rfl) (pe_op op_cat (pe_lst (pa_cons (C8.pe_gc (v := .ref o0) rfl ⟨_, mZ, rfl⟩) pa_nil)) (pv 0)))
    (pss_cons (ps_set (i := 2) scTb.nd rfl (Or.inl rfl) (pe_lst (pa_cons (pv 1) pa_nil)))
    (pss_cons (ps_while PassesOwn.never (pt_cmpR op_lt (pe_callB call_len_seq rfl mn PySem.boot_len (pa_cons (pv 2) pa_nil)) (pe_callB call_len_seq rfl mn PySem.boot_len (pa_cons (pv 0) pa_nil)) (nomark _))
      (pss_one (ps_expr (pe_bm PySem.F.plainAttrs_list PySem.F.slot_list_append PySem.F.type_list_append mt_append (pv 2) (pa_cons (pe_use UM hr rfl pass0 (pa_cons (pe_ix ix_list (pv 2) (pe_un un_neg pe_int) (fun _ _ => rfl)) (pa_cons (pv 1) pa_nil))) pa_nil)))))
    (pss_one (ps_ret (pe_lc (own := [("power", 3)]) (g := gName 3) (tt := tYes) rfl scTb.nd (pi_list (pv 2)) (blkOk_by (N := nTb) (sc := defScope F_table_lines) (by decide +kernel))
      (fun _ _ _ _ _ => pg_name (i := 3) scTb.nd rfl (Or.inl rfl)) (fun _ _ _ _ _ => pts_nil) (fun _ _ _ _ _ => pe_slice (sll_at K rfl) (pv 3) (po_some pe_int) po_none)))))), ?_⟩
  have lx : xs.length = qs.length := nx.1
  refine ⟨(by show 1 ≤ sizeLine; decide), fun a na => ⟨_, rfl, a, xa, _, _, rfl, rfl, upd_same, new_same na _ _ _ hx, Nat.le_of_lt (small1000 (by show 1 + _ ≤ _; omega)), fun d nd => ?_⟩⟩
  have s1 := new_same na (.lst [V.ref o0])
  have s2 := s1.trans (new_same nd (.lst ([V.ref o0] ++ xs)))
  have ed : upd (upd H a (.lst [V.ref o0])) d (.lst ([V.ref o0] ++ xs)) d = some (.lst ([V.ref o0] ++ xs)) := upd_same
  have n1 : Nl K (upd (upd H a (.lst [V.ref o0])) d (.lst ([V.ref o0] ++ xs))) ([V.ref o0] ++ xs) (0 :: qs) := Nl.cons ⟨o0, rfl, .inr k0⟩ (nx.same s2)
  generalize upd (upd H a (.lst [V.ref o0])) d (.lst ([V.ref o0] ++ xs)) = H1 at s2 ed n1
  generalize [V.ref o0] ++ xs = us at ed n1
  have lu : us.length = qs.length + 1 := n1.1
  refine ⟨_, rfl, (by show 1 ≤ sizeLine; decide), fun pa np => ?_⟩
  have z0 : AllD L B (0 :: qs) := bq 0 (by omega)
  have s3 := new_same np (.lst [V.ref d])
  have nd3 : d ≠ pa := fun z => by rw [z, np] at ed; cases ed
  refine ⟨fun m σ H' => Same H1 H' ∧ σ = [some (.ref xa), some (.ref d), some (.ref pa), none] ∧ ∃ k ps, k ≤ qs.length ∧ 1 ≤ k ∧ m = qs.length - k ∧ H' pa = some (.lst ps) ∧ Lsl K H' ps ((List.range k).map (powL (0 :: qs))) ∧ ∀ x ∈ ps, x ≠ .ref pa, ⟨_, s3, rfl, 1, [.ref d], l1, Nat.le_refl _, rfl, upd_same, ⟨rfl, ?_⟩, ?_⟩, ?_⟩
  · intro i x r h1 h2
    match i, h1, h2 with
    | 0, h1, h2 =>
      obtain rfl : V.ref d = x := Option.some.inj h1
      obtain rfl : powL (0 :: qs) 0 = r := Option.some.inj h2
      exact ⟨d, us, rfl, s3 _ _ ed, n1.same s3⟩
    | _ + 1, h1, _ => simp at h1
  · intro x hx e
    obtain rfl := List.mem_singleton.mp hx
    exact nd3 (V.ref.inj e)
  rintro m σ H' ⟨s4, rfl, k, ps, kq, k1, rfl, hp, np', hne⟩
  have lp : ps.length = k := by rw [np'.1, List.length_map, List.length_range]
  have hx4 := s4 _ _ (s2 _ _ hx)
  refine ⟨_, rfl, pa, ps, rfl, .inl (SqL.of hp), _, rfl, xa, xs, rfl, .inl (SqL.of hx4), _, _, rfl, rfl, _, rfl, ite2 (fun c => ?_) (fun c => ?_)⟩
  · have c' : ps.length < xs.length := by
      have := of_decide_eq_true c
      omega
    refine ⟨fun σ' H2 => Same H1 H2 ∧ σ' = [some (.ref xa), some (.ref d), some (.ref pa), none] ∧ ∃ ps2, H2 pa = some (.lst ps2) ∧ Lsl K H2 ps2 ((List.range (k + 1)).map (powL (0 :: qs))) ∧ ∀ x ∈ ps2, x ≠ .ref pa, ?_, ?_⟩
    · rintro σ' H2 ⟨t1, rfl, ps2, t2, t3, t4⟩
      exact ⟨qs.length - (k + 1), by omega, t1, rfl, k + 1, ps2, by omega, by omega, rfl, t2, t3, t4⟩
    · obtain ⟨y, ey, ly⟩ := np'.get' (i := k - 1) (by rw [List.length_map, List.length_range]; omega)
      have er : ((List.range k).map (powL (0 :: qs)))[k - 1]'(by rw [List.length_map, List.length_range]; omega) = powL (0 :: qs) (k - 1) := by
        rw [List.getElem_map, List.getElem_range]
      rw [er] at ly
      have ed4 := s4 _ _ ed
      have n4 := n1.same s4
      refine ⟨_, rfl, .inl ⟨rfl, _, SqL.of hp⟩, _, rfl, _, rfl, pa, ps, -1, y, rfl, rfl, SqL.of hp, ?_, _, rfl, y, _, powL (0 :: qs) (k - 1), 0 :: qs, L, B, L, B, rfl, ly, ⟨d, us, rfl, ed4, n4⟩, powL_len _ _, by rw [powL_len, List.length_cons]; omega, sL, lB, sL, lB, bq (k - 1) (by omega), z0, fun b H5 zs s5 nb hb mz => ?_⟩
      · show (ixN ps.length (-1)).bind _ = _
        have : ixN ps.length (-1) = some (ps.length - 1) := by
          unfold ixN
          rw [if_neg (by decide)]
          split
          · congr 1; omega
          · omega
        rw [this, lp]
        exact ey
      · have hp5 := s5 _ _ hp
        have nb' : b ≠ pa := fun z => by rw [z, hp] at nb; cases nb
        refine ⟨pa, ps, _, rfl, rfl, hp5, small1000 (by omega), ?_, rfl, ps ++ [.ref b], upd_same, ?_, ?_⟩
        · intro c o hc
          have nc : c ≠ pa := fun z => by rw [z, np] at hc; cases hc
          rw [upd_ne nc]
          exact s5 _ _ (s4 _ _ hc)
        · have bu : But pa H5 (upd H5 pa (.lst (ps ++ [V.ref b]))) := fun e o n h => by rw [upd_ne n]; exact h
          have L5 := np'.same s5
          have r1 : (List.range (k + 1)).map (powL (0 :: qs)) = (List.range k).map (powL (0 :: qs)) ++ [mulL (powL (0 :: qs) (k - 1)) (0 :: qs)] := by
            rw [List.range_succ, List.map_append]
            obtain ⟨j, rfl⟩ : ∃ j, k = j + 1 := ⟨k - 1, by omega⟩
            rfl
          rw [r1]
          refine Lsl.snoc ⟨L5.1, fun i x r h1 h2 => (L5.2 i x r h1 h2).butL hp5 (hne x (List.mem_of_getElem? h1)) bu⟩ ?_
          exact (Ls.butL ⟨b, zs, rfl, hb, mz⟩ hp5 (fun z => nb' (V.ref.inj z)) bu)
        · intro x hx
          rcases List.mem_append.mp hx with hx | hx
          · exact hne x hx
          · obtain rfl := List.mem_singleton.mp hx
            exact fun z => nb' (V.ref.inj z)
  · have c' : ¬ (ps.length : Int) < (xs.length : Nat) := of_decide_eq_false (Bool.eq_false_iff.mpr c)
    have kl : k = qs.length := by omega
    refine ⟨_, rfl, pa, rfl, ⟨_, SqL.of hp⟩, fun D nD => ?_⟩
    refine lc_rows (K := K) (walk_list (K := K) (a := pa) (xs := ps)) (tabL qs) (by rw [tabL_len]; omega) nD (by omega) (fun H' s => SqL.of (s _ _ hp)) ?_ (fun H5 zs s h m _ => q D H5 zs ((s2.trans s4).trans s) ((s2.trans s4).free nD) h m)
    rintro i r x H2 H3 k' hq s5 ⟨rfl, hx2⟩ hk
    obtain ⟨r0, er0, lr0⟩ := np'.get hx2
    have hi : i < k := by
      rcases Nat.lt_or_ge i k with c | c
      · exact c
      · rw [List.getElem?_eq_none (by rw [List.length_map, List.length_range]; exact c)] at er0; cases er0
    have e1 : powL (0 :: qs) i = r0 := by
      rw [List.getElem?_map, List.getElem?_range hi] at er0
      exact Option.some.inj er0
    have e2 : (powL (0 :: qs) i).drop 1 = r := by
      unfold tabL at hq
      rw [List.getElem?_map, List.getElem?_range (by omega)] at hq
      exact Option.some.inj hq
    obtain ⟨ra, rxs, rfl, hra, nra⟩ := lr0.same s5
    refine ⟨rfl, _, rfl, 1, rfl, ra, rxs, rfl, SqL.of hra, fun p np5 => ?_⟩
    rw [show cutV rxs (some 1) none = rxs.drop 1 from cut_drop rxs 1]
    refine hk p _ (new_same np5 _) np5 ⟨p, _, rfl, upd_same, ?_⟩
    rw [← e2, e1]
    exact (nra.drop 1).same (new_same np5 _)
end
end Kx
end
section
set_option maxHeartbeats 4000000
namespace Kx
open PySem PySem.Spec PyProof.Rows L2 RZ
/-! ### steps as series -/
def toT (n : Nat) (F : Ser) : List Rat := (List.range n).map fun i => F (i + 1)
def serS (qs : List Rat) : Ser := ser (0 :: qs)
theorem toT_len (n : Nat) (F : Ser) : (toT n F).length = n := by unfold toT; rw [List.length_map, List.length_range]
theorem toT_get {n i : Nat} {F : Ser} (h : i < n) : (toT n F)[i]? = some (F (i + 1)) := by
  unfold toT
  rw [List.getElem?_map, List.getElem?_range h]
  rfl
theorem toT_toL {n : Nat} (F : Ser) : F 0 :: toT n F = toL (n + 1) F := by
  unfold toT toL
  rw [List.range_succ_eq_map, List.map_cons, List.map_map]
  rfl
theorem toT_drop {n : Nat} (F : Ser) : toT n F = (toL (n + 1) F).drop 1 := by rw [← toT_toL]; rfl
theorem toT_eq {n : Nat} {F G : Ser} (h : EqTo (n + 1) F G) : toT n F = toT n G := List.map_congr_left fun i hi => h (i + 1) (by have := List.mem_range.mp hi; omega)
theorem toT_take {n m : Nat} (F : Ser) (h : m ≤ n) : (toT n F).take m = toT m F := by
  unfold toT
  rw [← List.map_take, List.take_range, Nat.min_eq_left h]
theorem serS_zero (qs : List Rat) : serS qs 0 = 0 := rfl
theorem serS_toT {n : Nat} {F : Ser} (h : F 0 = 0) : EqTo (n + 1) (serS (toT n F)) F := by
  unfold serS
  have := toT_toL (n := n) F
  rw [h] at this
  rw [this]
  exact ser_toL
theorem toT_serS (qs : List Rat) : toT qs.length (serS qs) = qs := by
  rw [toT_drop]
  unfold serS
  have : qs.length + 1 = (0 :: qs).length := rfl
  rw [this, toL_ser]
  rfl
/-- a row, or a step with its number at the place 0, behind a step -/
def bhdL (us rs : List Rat) : List Rat := toL us.length (cmpS (ser us) (serS rs))
def cmpL (qs rs : List Rat) : List Rat := toT qs.length (cmpS (serS qs) (serS rs))
theorem bhdL_len (us rs : List Rat) : (bhdL us rs).length = us.length := toL_len _ _
theorem cmpL_len (qs rs : List Rat) : (cmpL qs rs).length = qs.length := toT_len _ _
theorem pow_at {rs : List Rat} {j i : Nat} (h : i < rs.length) : ((powL (0 :: rs) j).drop 1).getD i 0 = powS (serS rs) (j + 1) (i + 1) := by
  have e : (0 :: rs) = toL (rs.length + 1) (serS rs) := (toL_ser (0 :: rs)).symm
  rw [List.getD_eq_getElem?_getD, List.getElem?_drop]
  rw [e, powL_toL, Nat.add_comm 1 i, toL_get (by omega)]
  rfl
theorem mix_at {qs rs : List Rat} (l : qs.length = rs.length) {i : Nat} (hi : i < rs.length) (q0 : Rat) : dotL qs ((tabL rs).map fun r => r.getD i 0) = cmpS (ser (q0 :: qs)) (serS rs) (i + 1) := by
  rw [← cmpS_to (serS_zero rs) (show i + 1 < rs.length + 1 by omega), sum_first]
  unfold dotL
  rw [List.length_map, tabL_len, l, Nat.min_self, dotT_sum]
  have z : ser (q0 :: qs) 0 * powS (serS rs) 0 (i + 1) = 0 := Rat.mul_zero _
  rw [z, Rat.zero_add]
  refine sum_congr fun j hj => ?_
  have e : ser ((tabL rs).map fun r => r.getD i 0) j = powS (serS rs) (j + 1) (i + 1) := by
    rw [← pow_at hi]
    show List.getD _ _ _ = _
    unfold tabL
    rw [List.getD_eq_getElem?_getD, List.getElem?_map, List.getElem?_map, List.getElem?_range hj]
    rfl
  rw [e]
  rfl
theorem mix_step {qs rs : List Rat} (l : qs.length = rs.length) : mixL rs.length qs (tabL rs) = cmpL qs rs := by
  unfold cmpL
  rw [l]
  exact List.map_congr_left fun i hi => mix_at l (List.mem_range.mp hi) 0
theorem mix_row {q0 : Rat} {qs rs : List Rat} (l : qs.length = rs.length) : q0 :: mixL rs.length qs (tabL rs) = bhdL (q0 :: qs) rs := by
  unfold bhdL
  rw [List.length_cons, ← toT_toL, cmpS_zero, l]
  congr 1
  exact List.map_congr_left fun i hi => mix_at l (List.mem_range.mp hi) q0
theorem cmpL_bhd (qs rs : List Rat) : bhdL (0 :: qs) rs = 0 :: cmpL qs rs := by
  unfold bhdL cmpL
  rw [List.length_cons, ← toT_toL, cmpS_zero]
  rfl
theorem dotL_d {L B M C : Nat} {us ws : List Rat} (h : AllD L B us) (h' : AllD M C ws) (l : min us.length ws.length ≤ 32) : Dq (L * M) (B + C + 32) (dotL us ws) := (dotT_z h h' _).mono (by omega)
theorem mixL_d {n L B M C : Nat} {qs : List Rat} {rows : List (List Rat)} (h : AllD L B qs) (h' : ∀ r ∈ rows, AllD M C r) (l : rows.length ≤ 32) : AllD (L * M) (B + C + 32) (mixL n qs rows) := by
  intro q hq
  obtain ⟨i, _, rfl⟩ := List.mem_map.mp hq
  refine dotL_d h (fun p hp => ?_) (by rw [List.length_map]; omega)
  obtain ⟨r, hr, rfl⟩ := List.mem_map.mp hp
  exact (h' r hr).getD i
end Kx
end
section
set_option maxHeartbeats 4000000
namespace Kx
open PySem PySem.Spec PyProof.Rows L2 RZ
theorem reps {K : PySem.W.Frag} {H : Hp} {v : V} {q : Rat} (h : Nq K H v q) (n : Nat) : Nl K H (List.replicate n v) (List.replicate n q) := by
  refine ⟨by rw [List.length_replicate, List.length_replicate], fun i x r h1 h2 => ?_⟩
  rw [List.getElem?_replicate] at h1 h2
  by_cases c : i < n
  · rw [if_pos c] at h1 h2
    rw [← Option.some.inj h1, ← Option.some.inj h2]
    exact h
  · rw [if_neg c] at h1
    cases h1
theorem zeros {K : PySem.W.Frag} {H : Hp} {v : V} (h : Nq K H v 0) (n : Nat) : Nl K H (List.replicate n v) (List.replicate n 0) := reps h n
/-! ### three more errors -/
section
variable {P : Program} {w : World} {K : PySem.W.Frag} {mg : Str → Option Value} {base : Heap} {f C : Addr} {fd : FuncData}
theorem scI_NotSlow : FnScope ["self", "first"] ["self", "first"] (defScope C_NotSlow_init) := ⟨rfl, rfl, rfl, by decide +kernel, rfl, by decide +kernel, by decide +kernel⟩
theorem init_NotSlow (F : Fun K "__init__" "NotSlow.__init__" C_NotSlow_init f fd) (T : XC K C) (n0 : PySem.W.findIn K (.ref C) "code" = some none) (n1 : PySem.W.findIn K (.ref C) "first" = some none) : FnOk P w K mg base CX0 1 f fd ["self", "first"] (spIn C 1 (fs1 "NotSlow" "first")) := by
  refine F.ok scI_NotSlow (fun vs H Q E h => ?_) (fun cdv A outer s H vs Q E hr h => ?_)
  · obtain ⟨a, ws, rfl, l, _⟩ := h
    exact congrArg Nat.succ l
  obtain ⟨a, ws, rfl, l, ha, q⟩ := h
  obtain ⟨v, rfl⟩ : ∃ v, ws = [v] := by match ws, l with | [v], _ => exact ⟨v, rfl⟩
  refine ⟨_, pss_cons (ps_xst (pv 0) pe_str) (pss_one (ps_xst (pv 0) (pv 1))), ?_⟩
  refine ⟨_, rfl, a, _, rfl, T, n0, .inl ⟨ha, fun e H1 ne he h1 h2 h3 => ?_⟩⟩
  refine ⟨_, rfl, _, rfl, a, _, rfl, T, n1, .inr ⟨e, _, h1, h2, (by show 1 ≤ 900; decide), ?_⟩⟩
  exact q e _ ne he (by rw [upd_ne (Ne.symm ne)]; exact h1) (by rw [upd_same]; rfl) (fun b b1 b2 => by rw [upd_ne b2]; exact h3 b b1 b2)
end
/-! ### slow or not -/
def spSn (K : PySem.W.Frag) : Sp := fun vs H Q _ => ∃ n : Nat, vs = [.int (n : Nat)] ∧ 2 ≤ n ∧ n ≤ 24 ∧ GivesL K H Q (1 :: List.replicate (n - 1) 0)
def spCkS (K : PySem.W.Frag) (S CN : Addr) : Sp := fun vs H Q E => ∃ (v : V) (qs : List Rat), vs = [v] ∧ StAt K S H v qs ∧ (serS qs 1 = 1 → Q .non H) ∧ (serS qs 1 ≠ 1 → ∀ x0, Nq K H x0 (serS qs 1) → Air H CN (fs1 "NotSlow" "first" [x0]) E)
section
variable {P : Program} {w : World} {K : PySem.W.Frag} {mg : Str → Option Value} {base : Heap} {f C S CF CO CN o0 o1 : Addr} {fd : FuncData} {H : Hp}
theorem scSn : FnScope ["order"] ["order"] (defScope F_still_numbers) := ⟨rfl, rfl, rfl, by decide +kernel, rfl, by decide +kernel, by decide +kernel⟩
theorem ok_stilln (G : Fun K "still_numbers" "still_numbers" F_still_numbers f fd) (k1 : KP K o1 1 1) (k0 : KP K o0 0 1) (mZ : mg "ZERO" = some (.ref o0)) (mO : mg "ONE" = some (.ref o1)) : FnOk P w K mg base CX0 1 f fd ["order"] (spSn K) := by
  refine G.ok scSn (fun vs H Q E h => ?_) (fun cdv A outer s H vs Q E hr h => ?_)
  · obtain ⟨n, rfl, _⟩ := h
    rfl
  obtain ⟨n, rfl, h2, h24, q⟩ := h
  refine ⟨_, pss_one (ps_ret (pe_op op_cat (pe_lst (pa_cons (C8.pe_gc (v := .ref o1) rfl ⟨_, mO, rfl⟩) pa_nil)) (pe_op op_rep (pe_lst (pa_cons (C8.pe_gc (v := .ref o0) rfl ⟨_, mZ, rfl⟩) pa_nil)) (pe_op op_sub (pv 0) pe_int)))), ?_⟩
  refine ⟨(by show 1 ≤ sizeLine; decide), fun a na => ⟨(by show 1 ≤ sizeLine; decide), fun b nb => ⟨_, rfl, (n : Int), 1, rfl, rfl, b, ((n : Int) - 1), [.ref o0], rfl, rfl, upd_same, by omega, by omega, (by show 1 * _ ≤ sizeLine; exact Nat.le_of_lt (small1000 (by omega))), fun c nc => ?_⟩⟩⟩
  have rep : (List.replicate ((n : Int) - 1).toNat [V.ref o0]).flatten = List.replicate (n - 1) (.ref o0) := by
    rw [List.flatten_replicate_singleton]
    congr 1
    omega
  rw [rep]
  refine ⟨a, c, _, _, rfl, rfl, new_same nc _ _ _ (new_same nb _ _ _ upd_same), upd_same, Nat.le_of_lt (small1000 (by rw [List.length_replicate]; show 1 + _ ≤ _; omega)), fun d nd => ?_⟩
  refine q d _ _ ((new_same na _).trans ((new_same nb _).trans ((new_same nc _).trans (new_same nd _)))) ?_ upd_same ?_
  · exact (new_same na (.lst [V.ref o1])).free ((new_same nb _).free ((new_same nc _).free nd))
  · exact Nl.cons ⟨o1, rfl, .inr k1⟩ (zeros ⟨o0, rfl, .inr k0⟩ _)
theorem StAt.ld {v : V} {qs : List Rat} (h : StAt K S H v qs) : ∃ (x dx : Addr) (fs : List (Str × V)) (x0 : V), v = .ref x ∧ H x = some (.ins S dx fs) ∧ fs.lookup ("lead" : Str) = some x0 ∧ Nq K H x0 (serS qs 1) ∧ fs.lookup ("numbers" : Str) = none ∧ fs.lookup ("power" : Str) = none := by
  obtain ⟨x, dx, b, xs, x0, fv, sv, e, h1, h2, h3, h4, h5, h6⟩ := h
  obtain ⟨y0, e0, n0⟩ := h3.get' (i := 0) (by omega)
  rw [h4] at e0
  obtain rfl := Option.some.inj e0
  have g0 : serS qs 1 = qs[0] := by
    show qs.getD 0 0 = _
    rw [List.getD_eq_getElem?_getD, List.getElem?_eq_getElem (by omega)]
    rfl
  exact ⟨x, dx, _, x0, e, h1, rfl, by rw [g0]; exact n0, rfl, rfl⟩
theorem StAt.le {v : V} {qs : List Rat} (h : StAt K S H v qs) : 2 ≤ qs.length ∧ qs.length ≤ 24 := by
  obtain ⟨_, _, _, _, _, _, _, _, _, _, _, _, h5, h6⟩ := h
  exact ⟨h5, h6⟩
theorem scCkS : FnScope ["step"] ["step"] (defScope F_check_slow) := ⟨rfl, rfl, rfl, by decide +kernel, rfl, by decide +kernel, by decide +kernel⟩
theorem ok_cslow (G : Fun K "check_slow" "check_slow" F_check_slow f fd) (k : StepK P w K mg base C S CF CO) (k1 : KP K o1 1 1) (mO : mg "ONE" = some (.ref o1)) (Z : ErrC P w K mg base "NotSlow" 1 (fs1 "NotSlow" "first") CN) : FnOk P w K mg base (L2.CX P w) 3 f fd ["step"] (spCkS K S CN) := by
  refine G.okX scCkS (fun vs H Q E h => ?_) (fun cdv A outer s H vs Q E hr h => ?_)
  · obtain ⟨v, qs, rfl, _⟩ := h
    rfl
  obtain ⟨v, qs, rfl, hX, h1, h2⟩ := h
  obtain ⟨x, dx, fs, x0, rfl, hx, fl, nq, _⟩ := hX.ld
  obtain ⟨fI, fdI, ps, i1, i2, i3, i4⟩ := Z.i
  refine ⟨_, pss_one (ps_if (pt_cmpR (op_neD hr.units) (pe_fld (pv 0) rfl) (C8.pe_gc (v := .ref o1) rfl ⟨_, mO, rfl⟩) (nomark _)) (pss_one (ps_raise rfl (takes_of rfl rfl rfl rfl) (pmk_xo Z.T Z.ty i1 i2 i3 (hr.mono (by decide)) i4 pass0 rfl Z.m (pa_cons (pe_fld (pv 0) rfl) pa_nil)))) pss_nil), ?_⟩
  refine ⟨_, rfl, x, S, dx, _, _, rfl, hx, k.c, k.nA _ (by simp [stN]), fl, tupQ (serS qs 1), tupQ 1, nq.dp, k1.dp _, rfl, rfl, _, rfl, ?_⟩
  rw [eqv_num]
  by_cases c : serS qs 1 = 1
  · rw [decide_eq_true c]
    exact iteF (h1 c)
  · rw [decide_eq_false c]
    exact iteT ⟨_, rfl, x, S, dx, _, _, rfl, hx, k.c, k.nA _ (by simp [stN]), fl, (by show 1 ≤ 1000; decide), fun a na => air_of (C := CN) (n := 1) (ws := [x0]) na rfl (h2 c x0 nq)⟩
end
end Kx
end
section
set_option maxHeartbeats 4000000
namespace Kx
open PySem PySem.Spec PyProof.Rows L2 RZ
/-! ### polynomials in one unknown: what holds at all numbers 0, 1, 2, .. holds at all fractions -/
def evP : List Rat → Rat → Rat
  | [], _ => 0
  | c :: cs, t => c + t * evP cs t
def Pl (p : Rat → Rat) : Prop := ∃ cs, ∀ t, p t = evP cs t
theorem Pl.const (c : Rat) : Pl fun _ => c := ⟨[c], fun t => by
  show c = c + t * 0
  rw [Rat.mul_zero, Rat.add_zero]⟩
theorem Pl.id : Pl fun t => t := ⟨[0, 1], fun t => by
  show t = 0 + t * (1 + t * 0)
  grind⟩
def adP : List Rat → List Rat → List Rat
  | [], ds => ds
  | cs, [] => cs
  | c :: cs, d :: ds => (c + d) :: adP cs ds
theorem adP_ev : ∀ (cs ds : List Rat) (t : Rat), evP (adP cs ds) t = evP cs t + evP ds t
  | [], ds, t => by
    show evP ds t = 0 + evP ds t
    rw [Rat.zero_add]
  | c :: cs, [], t => by
    show evP (c :: cs) t = evP (c :: cs) t + 0
    rw [Rat.add_zero]
  | c :: cs, d :: ds, t => by
    show c + d + t * evP (adP cs ds) t = c + t * evP cs t + (d + t * evP ds t)
    rw [adP_ev cs ds t]
    grind
theorem Pl.add {p q : Rat → Rat} (h : Pl p) (h' : Pl q) : Pl fun t => p t + q t := by
  obtain ⟨cs, e⟩ := h
  obtain ⟨ds, e'⟩ := h'
  exact ⟨adP cs ds, fun t => by
    show p t + q t = _
    rw [adP_ev, e, e']⟩
theorem Pl.smul (c : Rat) {p : Rat → Rat} (h : Pl p) : Pl fun t => c * p t := by
  obtain ⟨cs, e⟩ := h
  refine ⟨cs.map (c * ·), fun t => ?_⟩
  show c * p t = _
  rw [e]
  clear e
  induction cs with
  | nil => exact Rat.mul_zero c
  | cons d ds ih =>
    show c * (d + t * evP ds t) = c * d + t * evP (ds.map (c * ·)) t
    rw [← ih]
    grind
theorem Pl.mulX {p : Rat → Rat} (h : Pl p) : Pl fun t => t * p t := by
  obtain ⟨cs, e⟩ := h
  exact ⟨0 :: cs, fun t => by
    show t * p t = 0 + t * evP cs t
    rw [e, Rat.zero_add]⟩
theorem Pl.of_eq {p q : Rat → Rat} (h : Pl p) (e : ∀ t, q t = p t) : Pl q := by
  obtain ⟨cs, h⟩ := h
  exact ⟨cs, fun t => (e t).trans (h t)⟩
theorem Pl.mul {p q : Rat → Rat} (h : Pl p) (h' : Pl q) : Pl fun t => p t * q t := by
  obtain ⟨cs, e⟩ := h
  have : Pl fun t => evP cs t * q t := by
    clear e
    induction cs with
    | nil => exact (Pl.const 0).of_eq fun t => Rat.zero_mul _
    | cons c cs ih =>
      refine ((h'.smul c).add ih.mulX).of_eq fun t => ?_
      show (c + t * evP cs t) * q t = c * q t + t * (evP cs t * q t)
      grind
  refine this.of_eq fun t => ?_
  show p t * q t = evP cs t * q t
  rw [e]
theorem Pl.comp {p q : Rat → Rat} (h : Pl p) (h' : Pl q) : Pl fun t => p (q t) := by
  obtain ⟨cs, e⟩ := h
  have : Pl fun t => evP cs (q t) := by
    clear e
    induction cs with
    | nil => exact Pl.const 0
    | cons c cs ih => exact (Pl.const c).add (h'.mul ih)
  exact this.of_eq fun t => e _
theorem Pl.sum {f : Nat → Rat → Rat} : ∀ n, (∀ i, i < n → Pl (f i)) → Pl fun t => sumN (fun i => f i t) n
  | 0, _ => Pl.const 0
  | n + 1, h => (Pl.sum n fun i hi => h i (by omega)).add (h n (by omega))
/-- without the factor t - a -/
theorem evP_div (a : Rat) : ∀ cs : List Rat, ∃ ds, ds.length ≤ cs.length - 1 ∧ ∀ t, evP cs t = evP cs a + (t - a) * evP ds t
  | [] => ⟨[], Nat.le_refl _, fun t => by
    show (0 : Rat) = 0 + (t - a) * 0
    grind⟩
  | [c] => ⟨[], Nat.le_refl _, fun t => by
    show c + t * 0 = c + a * 0 + (t - a) * 0
    grind⟩
  | c :: d :: cs => by
    obtain ⟨ds, l, e⟩ := evP_div a (d :: cs)
    refine ⟨evP (d :: cs) a :: ds, ?_, fun t => ?_⟩
    · have l' : ds.length ≤ cs.length := l
      show ds.length + 1 ≤ cs.length + 1
      omega
    · show c + t * evP (d :: cs) t = c + a * evP (d :: cs) a + (t - a) * (evP (d :: cs) a + t * evP ds t)
      rw [e t]
      grind
theorem evP_zero : ∀ (n : Nat) (cs : List Rat) (m : Nat), cs.length ≤ n → (∀ k : Nat, m ≤ k → evP cs (k : Rat) = 0) → ∀ t, evP cs t = 0
  | 0, cs, _, l, _, t => by
    rw [List.eq_nil_of_length_eq_zero (Nat.le_zero.mp l)]
    rfl
  | n + 1, cs, m, l, h, t => by
    obtain ⟨ds, ld, e⟩ := evP_div (m : Rat) cs
    have z : ∀ k : Nat, m + 1 ≤ k → evP ds (k : Rat) = 0 := fun k hk => by
      have e1 := e (k : Rat)
      rw [h k (by omega), h m (Nat.le_refl _), Rat.zero_add] at e1
      have ne : (k : Rat) - (m : Rat) ≠ 0 := fun z => by
        have e2 : (k : Rat) = (m : Rat) := by grind
        have := Rat.natCast_inj.mp e2
        omega
      rcases Rat.mul_eq_zero.mp e1.symm with c | c
      · exact absurd c ne
      · exact c
    rw [e t, h m (Nat.le_refl _), evP_zero n ds (m + 1) (by omega) z t, Rat.mul_zero, Rat.add_zero]
theorem Pl.eq {p q : Rat → Rat} (hp : Pl p) (hq : Pl q) (h : ∀ n : Nat, p (n : Rat) = q (n : Rat)) (t : Rat) : p t = q t := by
  obtain ⟨cs, e⟩ := hp.add (hq.smul (-1))
  have := evP_zero cs.length cs 0 (Nat.le_refl _) (fun k _ => by
    rw [← e]
    show p (k : Rat) + -1 * q (k : Rat) = 0
    rw [h k]
    grind) t
  rw [← e] at this
  have this : p t + -1 * q t = 0 := this
  grind
/-! ### series whose numbers are polynomials -/
def PlS (F : Rat → Ser) : Prop := ∀ i, Pl fun t => F t i
theorem PlS.const (F : Ser) : PlS fun _ => F := fun i => Pl.const (F i)
theorem PlS.mul {F G : Rat → Ser} (h : PlS F) (h' : PlS G) : PlS fun t => mulS (F t) (G t) := fun k => Pl.sum (k + 1) fun i _ => (h i).mul (h' (k - i))
theorem PlS.pow {F : Rat → Ser} (h : PlS F) : ∀ k, PlS fun t => powS (F t) k
  | 0 => PlS.const oneS
  | k + 1 => (PlS.pow h k).mul h
theorem PlS.cmp {F G : Rat → Ser} (h : PlS F) (h' : PlS G) : PlS fun t => cmpS (F t) (G t) := fun n => Pl.sum (n + 1) fun j _ => (h j).mul (h'.pow j n)
/-! ### binomials -/
def bnR (t : Rat) : Nat → Rat
  | 0 => 1
  | k + 1 => bnR t k * ((t - ((k : Nat) : Rat)) / (((k + 1 : Nat)) : Rat))
theorem bn_pl : ∀ k, Pl fun t => bnR t k
  | 0 => Pl.const 1
  | k + 1 => (bn_pl k).mul (((Pl.id.add (Pl.const (-((k : Nat) : Rat)))).smul ((((k + 1 : Nat)) : Rat)⁻¹)).of_eq fun t => by
      rw [Rat.div_def]
      grind)
theorem nat_ne {k : Nat} (h : k ≠ 0) : ((k : Nat) : Rat) ≠ 0 := fun z => h (by
  have : ((k : Nat) : Rat) = ((0 : Nat) : Rat) := z
  exact Rat.natCast_inj.mp this)
theorem bn_step (t : Rat) (k : Nat) : bnR t (k + 1) * ((k + 1 : Nat) : Rat) = bnR t k * (t - (k : Rat)) := by
  show bnR t k * ((t - ((k : Nat) : Rat)) / (((k + 1 : Nat)) : Rat)) * _ = _
  rw [Rat.mul_assoc, Rat.div_mul_cancel (nat_ne (by omega))]
theorem bn_pascal (t : Rat) : ∀ k, bnR (t + 1) (k + 1) = bnR t (k + 1) + bnR t k
  | 0 => by
    show 1 * ((t + 1 - ((0 : Nat) : Rat)) / ((1 : Nat) : Rat)) = 1 * ((t - ((0 : Nat) : Rat)) / ((1 : Nat) : Rat)) + 1
    have e0 : ((0 : Nat) : Rat) = 0 := rfl
    have e1 : ((1 : Nat) : Rat) = 1 := rfl
    rw [e0, e1, Rat.div_def, Rat.div_def, show (1 : Rat)⁻¹ = 1 by decide +kernel]
    grind
  | k + 1 => by
    have n2 := nat_ne (show k + 2 ≠ 0 by omega)
    have ih := bn_pascal t k
    have h1 := bn_step (t + 1) (k + 1)
    have h2 := bn_step t (k + 1)
    have h3 := bn_step t k
    have c1 : ((k + 1 : Nat) : Rat) = (k : Rat) + 1 := Rat.natCast_add k 1
    have c2 : ((k + 1 + 1 : Nat) : Rat) = (k : Rat) + 2 := Rat.natCast_add k 2
    have c2' : ((k + 2 : Nat) : Rat) = (k : Rat) + 2 := Rat.natCast_add k 2
    rw [c1] at h1 h2 h3
    rw [c2] at h1 h2
    rw [c2'] at n2
    rw [ih] at h1
    have e : bnR (t + 1) (k + 1 + 1) * ((k : Rat) + 2) = (bnR t (k + 1 + 1) + bnR t (k + 1)) * ((k : Rat) + 2) := by grind
    have := congrArg (· * ((k : Rat) + 2)⁻¹) e
    simp only [Rat.mul_assoc, Rat.mul_inv_cancel _ n2, Rat.mul_one] at this
    exact this
theorem bn_zero : ∀ k, bnR 0 (k + 1) = 0
  | 0 => by
    show 1 * ((0 - ((0 : Nat) : Rat)) / ((1 : Nat) : Rat)) = 0
    decide +kernel
  | k + 1 => by
    show bnR 0 (k + 1) * _ = 0
    rw [bn_zero k, Rat.zero_mul]
end Kx
end
section
set_option maxHeartbeats 4000000
namespace Kx
open PySem PySem.Spec PyProof.Rows L2 RZ
/-! ### differences of a series along a slow step, and its powers by fractions -/
def dfS (f h : Ser) : Ser := fun n => cmpS h f n - h n
def dfK (f : Ser) : Nat → Ser
  | 0 => xS
  | k + 1 => dfS f (dfK f k)
def pwF (f : Ser) (t : Rat) (N : Nat) : Ser := fun i => sumN (fun k => bnR t k * dfK f k i) N
def itS (f : Ser) : Nat → Ser
  | 0 => xS
  | n + 1 => cmpS (itS f n) f
theorem pow_d1 {f : Ser} (f0 : f 0 = 0) (f1 : f 1 = 1) : ∀ k, powS f k k = 1
  | 0 => rfl
  | k + 1 => by
    show sumN (fun i => powS f k i * f (k + 1 - i)) k + powS f k k * f (k + 1 - k) + powS f k (k + 1) * f (k + 1 - (k + 1)) = 1
    rw [sum_zero fun i hi => by rw [powS_low f0 k i hi, Rat.zero_mul], pow_d1 f0 f1 k, show k + 1 - k = 1 by omega, show k + 1 - (k + 1) = 0 by omega, f0, f1]
    grind
theorem df_low {f : Ser} (f0 : f 0 = 0) (f1 : f 1 = 1) : ∀ k i, i ≤ k → dfK f k i = 0
  | 0, i, h => by
    obtain rfl : i = 0 := by omega
    rfl
  | k + 1, i, h => by
    show sumN (fun j => dfK f k j * powS f j i) i + dfK f k i * powS f i i - dfK f k i = 0
    rw [sum_zero fun j hj => by rw [df_low f0 f1 k j (by omega), Rat.zero_mul], pow_d1 f0 f1]
    grind
theorem df_zero {f : Ser} (f0 : f 0 = 0) : ∀ k, dfK f k 0 = 0
  | 0 => rfl
  | k + 1 => by
    show cmpS (dfK f k) f 0 - dfK f k 0 = 0
    rw [cmpS_zero]
    grind
theorem df_one {f : Ser} (f0 : f 0 = 0) (f1 : f 1 = 1) (k : Nat) : dfK f (k + 1) 1 = 0 := df_low f0 f1 (k + 1) 1 (by omega)
theorem cmp_sum (c : Nat → Rat) (g : Nat → Ser) (f : Ser) (N n : Nat) : cmpS (fun i => sumN (fun k => c k * g k i) N) f n = sumN (fun k => c k * cmpS (g k) f n) N := by
  have e1 : cmpS (fun i => sumN (fun k => c k * g k i) N) f n = sumN (fun j => sumN (fun k => c k * (g k j * powS f j n)) N) (n + 1) := sum_congr fun j _ => by
    rw [← sum_mulR]
    exact sum_congr fun k _ => Rat.mul_assoc _ _ _
  rw [e1, sum_swap]
  exact sum_congr fun k _ => sum_mul (c k) _ _
theorem pw_tele (f : Ser) (t : Rat) (i : Nat) : ∀ N, sumN (fun k => bnR t k * (dfK f (k + 1) i + dfK f k i)) (N + 1) = sumN (fun k => bnR (t + 1) k * dfK f k i) (N + 1) + bnR t N * dfK f (N + 1) i
  | 0 => by
    show (0 : Rat) + 1 * (dfK f 1 i + dfK f 0 i) = 0 + 1 * dfK f 0 i + 1 * dfK f 1 i
    grind
  | N + 1 => by
    show sumN _ (N + 1) + bnR t (N + 1) * (dfK f (N + 1 + 1) i + dfK f (N + 1) i) = sumN _ (N + 1) + bnR (t + 1) (N + 1) * dfK f (N + 1) i + _
    rw [pw_tele f t i N, bn_pascal]
    grind
theorem pw_up {f : Ser} (f0 : f 0 = 0) (f1 : f 1 = 1) (t : Rat) {N i : Nat} (hN : 1 ≤ N) (hi : i ≤ N) : cmpS (pwF f t N) f i = pwF f (t + 1) N i := by
  obtain ⟨N, rfl⟩ : ∃ m, N = m + 1 := ⟨N - 1, by omega⟩
  show cmpS (fun i => sumN (fun k => bnR t k * dfK f k i) (N + 1)) f i = _
  rw [cmp_sum]
  have e : sumN (fun k => bnR t k * cmpS (dfK f k) f i) (N + 1) = sumN (fun k => bnR t k * (dfK f (k + 1) i + dfK f k i)) (N + 1) := sum_congr fun k _ => by
    show _ = bnR t k * (cmpS (dfK f k) f i - dfK f k i + dfK f k i)
    grind
  rw [e, pw_tele, df_low f0 f1 (N + 1) i hi, Rat.mul_zero, Rat.add_zero]
  rfl
theorem pw_0 (f : Ser) {N : Nat} (hN : 1 ≤ N) : pwF f 0 N = xS := by
  obtain ⟨N, rfl⟩ : ∃ m, N = m + 1 := ⟨N - 1, by omega⟩
  funext i
  show sumN (fun k => bnR 0 k * dfK f k i) (N + 1) = _
  rw [sum_first, sum_zero fun k _ => by rw [bn_zero, Rat.zero_mul]]
  show 1 * xS i + 0 = xS i
  grind
theorem pw_00 {f : Ser} (f0 : f 0 = 0) (t : Rat) (N : Nat) : pwF f t N 0 = 0 := sum_zero fun k _ => by rw [df_zero f0, Rat.mul_zero]
theorem pw_01 {f : Ser} (f0 : f 0 = 0) (f1 : f 1 = 1) (t : Rat) {N : Nat} (hN : 1 ≤ N) : pwF f t N 1 = 1 := by
  obtain ⟨N, rfl⟩ : ∃ m, N = m + 1 := ⟨N - 1, by omega⟩
  show sumN (fun k => bnR t k * dfK f k 1) (N + 1) = _
  rw [sum_first, sum_zero fun k _ => by rw [df_one f0 f1, Rat.mul_zero]]
  show 1 * (1 : Rat) + 0 = 1
  grind
theorem it_00 {f : Ser} : ∀ n, itS f n 0 = 0
  | 0 => rfl
  | n + 1 => by
    show cmpS _ _ 0 = 0
    rw [cmpS_zero, it_00 n]
theorem pw_nat {f : Ser} (f0 : f 0 = 0) (f1 : f 1 = 1) {N : Nat} (hN : 1 ≤ N) : ∀ n : Nat, EqTo (N + 1) (pwF f ((n : Nat) : Rat) N) (itS f n)
  | 0 => fun i _ => by
    show pwF f ((0 : Nat) : Rat) N i = xS i
    rw [show ((0 : Nat) : Rat) = 0 from rfl, pw_0 f hN]
  | n + 1 => fun i hi => by
    rw [show ((n + 1 : Nat) : Rat) = (n : Rat) + 1 from Rat.natCast_add n 1, ← pw_up f0 f1 _ hN (by omega)]
    exact EqTo.cmp (pw_nat f0 f1 hN n) (fun _ _ => rfl) i hi
theorem pw_pl (f : Ser) (N : Nat) : PlS fun t => pwF f t N := fun i => Pl.sum N fun k _ => (bn_pl k).mul (Pl.const (dfK f k i))
theorem pw_cmp_nat {f : Ser} (f0 : f 0 = 0) (f1 : f 1 = 1) {N : Nat} (hN : 1 ≤ N) (s : Rat) : ∀ n : Nat, EqTo (N + 1) (cmpS (pwF f s N) (itS f n)) (pwF f (s + (n : Rat)) N)
  | 0 => fun i _ => by
    show cmpS _ xS i = _
    rw [cmpS_xr, show ((0 : Nat) : Rat) = 0 from rfl, Rat.add_zero]
  | n + 1 => fun i hi => by
    show cmpS _ (cmpS (itS f n) f) i = _
    rw [← cmpS_assoc (it_00 n) f0, EqTo.cmp (pw_cmp_nat f0 f1 hN s n) (fun _ _ => rfl) i hi, pw_up f0 f1 _ hN (by omega), show ((n + 1 : Nat) : Rat) = (n : Rat) + 1 from Rat.natCast_add n 1, Rat.add_assoc]
/-- f^s behind f^t -/
theorem pw_cmp {f : Ser} (f0 : f 0 = 0) (f1 : f 1 = 1) {N : Nat} (hN : 1 ≤ N) (s t : Rat) : EqTo (N + 1) (cmpS (pwF f s N) (pwF f t N)) (pwF f (s + t) N) := fun i hi =>
  Pl.eq (p := fun t => cmpS (pwF f s N) (pwF f t N) i) (q := fun t => pwF f (s + t) N i) ((PlS.const _).cmp (pw_pl f N) i) ((pw_pl f N i).comp ((Pl.const s).add Pl.id)) (fun n => by
    show cmpS _ _ i = _
    rw [EqTo.cmp (fun _ _ => rfl) (pw_nat f0 f1 hN n) i hi]
    exact pw_cmp_nat f0 f1 hN s n i hi) t
/-- f^s to the power t -/
theorem pw_of_pw {f : Ser} (f0 : f 0 = 0) (f1 : f 1 = 1) {N : Nat} (hN : 1 ≤ N) (s t : Rat) : EqTo (N + 1) (pwF (pwF f s N) t N) (pwF f (s * t) N) := fun i hi => by
  have g0 := pw_00 f0 s N
  have g1 := pw_01 f0 f1 s hN
  have nat : ∀ n : Nat, EqTo (N + 1) (itS (pwF f s N) n) (pwF f (s * (n : Rat)) N) := fun n => by
    induction n with
    | zero =>
      intro i _
      show xS i = _
      rw [show ((0 : Nat) : Rat) = 0 from rfl, Rat.mul_zero, pw_0 f hN]
    | succ n ih =>
      intro i hi
      show cmpS _ _ i = _
      rw [EqTo.cmp ih (fun _ _ => rfl) i hi, pw_cmp f0 f1 hN _ _ i hi, show ((n + 1 : Nat) : Rat) = (n : Rat) + 1 from Rat.natCast_add n 1, Rat.mul_add, Rat.mul_one]
  exact Pl.eq (p := fun t => pwF (pwF f s N) t N i) (q := fun t => pwF f (s * t) N i) (pw_pl _ N i) ((pw_pl f N i).comp (Pl.id.smul s)) (fun n => by
    show pwF _ _ N i = _
    rw [pw_nat g0 g1 hN n i hi]
    exact nat n i hi) t
/-- f^(-t) behind f^t -/
theorem pw_neg_cmp {f : Ser} (f0 : f 0 = 0) (f1 : f 1 = 1) {N : Nat} (hN : 1 ≤ N) (t : Rat) : EqTo (N + 1) (cmpS (pwF f (-t) N) (pwF f t N)) xS := fun i hi => by
  rw [pw_cmp f0 f1 hN _ _ i hi, show -t + t = 0 by grind, pw_0 f hN]
end Kx
end
section
set_option maxHeartbeats 4000000
namespace Kx
open PySem PySem.Spec PyProof.Rows L2 RZ
/-! ### a list, D of it, D of D of it and so on -/
def dsL (n : Nat) (rows : List (List Rat)) (r0 : List Rat) : Nat → List Rat
  | 0 => r0
  | k + 1 => (mixL n (dsL n rows r0 k) rows).zipWith (· - ·) (dsL n rows r0 k)
theorem dsL_len {n : Nat} {rows : List (List Rat)} {r0 : List Rat} (h : r0.length = n) : ∀ k, (dsL n rows r0 k).length = n
  | 0 => h
  | k + 1 => by
    show (List.zipWith _ _ _).length = n
    rw [List.length_zipWith, mixL_len, dsL_len h k, Nat.min_self]
def zr (qs : List Rat) : Bool := qs.all fun q => decide (q = 0)
def spDfs (K : PySem.W.Frag) : Sp := fun vs H Q _ => ∃ (x y : V) (r0 : List Rat) (rows : List (List Rat)) (n L B M C N : Nat), vs = [x, y] ∧ Ls K H x r0 ∧ Lss K H y rows ∧ r0.length = n ∧ 1 ≤ rows.length ∧ rows.length ≤ 24 ∧ (∀ r ∈ rows, r.length = n) ∧ n ≤ 24 ∧ SmL L ∧ B ≤ 100000 ∧ SmL M ∧ C ≤ 100000 ∧
  (∀ r ∈ rows, AllD M C r) ∧ (∀ k, k ≤ N → AllD L B (dsL n rows r0 k)) ∧ (∀ k, k < N → AllO (mixL n (dsL n rows r0 k) rows)) ∧ N ≤ 24 ∧ zr (dsL n rows r0 N) = true ∧
  ∀ N', N' ≤ N → zr (dsL n rows r0 N') = true → GivesLL K H Q ((List.range (N' + 1)).map (dsL n rows r0))
abbrev nDf : List Str := ["numbers", "lines", "found"]
def bnL (t : Rat) (m : Nat) : List Rat := (List.range m).map (bnR t)
theorem bnL_len (t : Rat) (m : Nat) : (bnL t m).length = m := by unfold bnL; rw [List.length_map, List.length_range]
/-- what the binomials of t want up to m -/
structure BnOk (t : Rat) (m : Nat) : Prop where
  b : ∀ k, k < m → Ok (bnR t k)
  d : ∀ k, k + 1 < m → Ok (t - (k : Rat))
  q : ∀ k, k + 1 < m → Ok ((t - (k : Rat)) / ((k + 1 : Nat) : Rat))
def spBns (K : PySem.W.Frag) : Sp := fun vs H Q _ => ∃ (x : V) (t : Rat) (m : Nat), vs = [x, .int (m : Nat)] ∧ Nq K H x t ∧ 1 ≤ m ∧ m ≤ 30 ∧ Ok t ∧ BnOk t m ∧ GivesL K H Q (bnL t m)
abbrev nBn : List Str := ["t", "many", "found", "j"]
def spBpw (K : PySem.W.Frag) : Sp := fun vs H Q _ => ∃ (x y : V) (t : Rat) (rows : List (List Rat)) (n L B M C : Nat), vs = [x, y] ∧ Lss K H x rows ∧ Nq K H y t ∧ 1 ≤ rows.length ∧ rows.length ≤ 30 ∧ n ≤ 30 ∧ (∀ r ∈ rows, r.length = n) ∧ Ok t ∧ BnOk t rows.length ∧ SmL L ∧ B ≤ 100000 ∧ SmL M ∧ C ≤ 100000 ∧ AllD L B (bnL t rows.length) ∧ (∀ r ∈ rows, AllD M C r) ∧ GivesL K H Q (mixL n (bnL t rows.length) rows)
theorem nat_num (k : Nat) : ((k : Nat) : Rat).num = (k : Int) ∧ ((k : Nat) : Rat).den = 1 := ⟨rfl, rfl⟩
theorem Nq.nat {K : PySem.W.Frag} {H : Hp} {t : Addr} {k : Nat} (h : H t = some (.tup [.int (k : Nat), .int 1])) : Nq K H (.ref t) ((k : Nat) : Rat) := ⟨t, rfl, .inl h⟩
theorem Ok.nat {k : Nat} (h : k < 2 ^ 30) : Ok ((k : Nat) : Rat) := ⟨by
  show ((k : Nat) : Int).natAbs < _
  rw [Int.natAbs_natCast]
  exact Nat.lt_of_lt_of_le h (Nat.pow_le_pow_right (by decide) (by decide)), by
  show 1 < _
  exact Nat.lt_of_lt_of_le (show 1 < 2 ^ 1 by decide) (Nat.pow_le_pow_right (by decide) (by decide))⟩
section
variable {P : Program} {w : World} {K : PySem.W.Frag} {mg : Str → Option Value} {base : Heap} {f C S CF CO CN o0 o1 : Addr} {fd : FuncData} {H : Hp}
theorem scDf : FnScope nDf ["numbers", "lines"] (defScope F_differences) := ⟨rfl, rfl, rfl, by decide +kernel, rfl, by decide +kernel, by decide +kernel⟩
theorem last_ix {ps : List V} {k : Nat} (lp : ps.length = k + 1) {y : V} (ey : ps[k]? = some y) : (ixN ps.length (-1)).bind (fun i => ps[i]?) = some y := by
  have : ixN ps.length (-1) = some (ps.length - 1) := by
    unfold ixN
    rw [if_neg (by decide)]
    split
    · congr 1; omega
    · omega
  rw [this, lp]
  exact ey
theorem ok_dfs (F : Fun K "differences" "differences" F_differences f fd) (UZ : Use P w K mg base CX0 1 "is_zero" ["numbers"] (spIz K) []) (UM : Use P w K mg base CX0 3 "mixed" ["factors", "lists"] (spMix K) []) (UD : Use P w K mg base CX0 2 "differences_of" ["one", "other"] (spTwoL K (· - ·)) []) : FnOk P w K mg base CX0 4 f fd ["numbers", "lines"] (spDfs K) := by
  refine F.ok scDf (fun vs H Q E h => ?_) (fun cdv A outer s H vs Q E hr h => ?_)
  · obtain ⟨x, y, r0, rows, n, L, B, M, C, N, rfl, _⟩ := h
    rfl
  obtain ⟨x, y, r0, rows, n, L, B, M, C, N, rfl, lx, ly, ln, r1, r24, rn, n24, sL, lB, sM, lC, zm, zd, om, N24, zN, q⟩ := h
  have hr1 := hr.mono (show 1 ≤ 3 by decide)
  have hr2 := hr.mono (show 2 ≤ 3 by decide)
  refine ⟨_, pss_cons (ps_set (i := 2) scDf.nd rfl (Or.inl rfl) (pe_lst (pa_cons (pv 0) pa_nil)))
    (pss_cons (ps_while PassesOwn.never (pt_not (pt_val (pe_use UZ hr1 rfl pass0 (pa_cons (pe_ix ix_list (pv 2) (pe_un un_neg pe_int) (fun _ _ => rfl)) pa_nil))))
      (pss_one (ps_expr (pe_bm PySem.F.plainAttrs_list PySem.F.slot_list_append PySem.F.type_list_append mt_append (pv 2) (pa_cons (pe_use UD hr2 rfl pass0 (pa_cons (pe_use UM hr rfl pass0 (pa_cons (pe_ix ix_list (pv 2) (pe_un un_neg pe_int) (fun _ _ => rfl)) (pa_cons (pv 1) pa_nil))) (pa_cons (pe_ix ix_list (pv 2) (pe_un un_neg pe_int) (fun _ _ => rfl)) pa_nil))) pa_nil)))))
    (pss_one (ps_ret (pv 2)))), ?_⟩
  obtain ⟨xa, xs, rfl, hx, nx⟩ := lx
  refine ⟨_, rfl, (by show 1 ≤ sizeLine; decide), fun pa np => ?_⟩
  have s0 := new_same np (.lst [V.ref xa])
  have nxp : xa ≠ pa := fun z => by rw [z, np] at hx; cases hx
  refine ⟨fun m σ H' => Same H H' ∧ σ = [some (.ref xa), some y, some (.ref pa)] ∧ ∃ k ps, k ≤ N ∧ m = N - k ∧ H' pa = some (.lst ps) ∧ Lsl K H' ps ((List.range (k + 1)).map (dsL n rows r0)) ∧ ∀ x ∈ ps, x ≠ .ref pa, ⟨_, s0, rfl, 0, [.ref xa], Nat.zero_le _, rfl, upd_same, ⟨rfl, ?_⟩, ?_⟩, ?_⟩
  · intro i x r h1 h2
    match i, h1, h2 with
    | 0, h1, h2 =>
      obtain rfl : V.ref xa = x := Option.some.inj h1
      obtain rfl : dsL n rows r0 0 = r := Option.some.inj h2
      exact ⟨xa, xs, rfl, s0 _ _ hx, nx.same s0⟩
    | _ + 1, h1, _ => simp at h1
  · intro x hx e
    obtain rfl := List.mem_singleton.mp hx
    exact nxp (V.ref.inj e)
  rintro m σ H' ⟨s1, rfl, k, ps, kN, rfl, hp, np', hne⟩
  have lp : ps.length = k + 1 := by rw [np'.1, List.length_map, List.length_range]
  obtain ⟨z, ez, lz⟩ := np'.get' (i := k) (by rw [List.length_map, List.length_range]; omega)
  have er : ((List.range (k + 1)).map (dsL n rows r0))[k]'(by rw [List.length_map, List.length_range]; omega) = dsL n rows r0 k := by
    rw [List.getElem_map, List.getElem_range]
  rw [er] at lz
  have dl := dsL_len (rows := rows) ln k
  refine ⟨_, rfl, _, rfl, pa, ps, -1, z, rfl, rfl, SqL.of hp, last_ix lp ez, z, dsL n rows r0 k, rfl, lz, by omega, fun H2 s2 => ?_⟩
  refine ⟨_, rfl, ?_⟩
  have hp2 := s2 _ _ hp
  have np2 := np'.same s2
  show if (!zr (dsL n rows r0 k)) = true then _ else _
  cases c : zr (dsL n rows r0 k) with
  | false =>
    rw [if_pos (show (!false) = true from rfl)]
    have kl : k < N := by
      rcases Nat.lt_or_ge k N with h | h
      · exact h
      · have : k = N := by omega
        rw [this, zN] at c
        cases c
    refine ⟨fun σ' H3 => Same H H3 ∧ σ' = [some (.ref xa), some y, some (.ref pa)] ∧ ∃ ps2, H3 pa = some (.lst ps2) ∧ Lsl K H3 ps2 ((List.range (k + 1 + 1)).map (dsL n rows r0)) ∧ ∀ x ∈ ps2, x ≠ .ref pa, ?_, ?_⟩
    · rintro σ' H3 ⟨t1, rfl, ps2, t2, t3, t4⟩
      exact ⟨N - (k + 1), by omega, t1, rfl, k + 1, ps2, kl, rfl, t2, t3, t4⟩
    refine ⟨_, rfl, .inl ⟨rfl, _, SqL.of hp2⟩, _, rfl, _, rfl, pa, ps, -1, z, rfl, rfl, SqL.of hp2, last_ix lp ez, _, rfl, z, y, dsL n rows r0 k, rows, n, L, B, M, C, rfl, lz.same s2, (ly.same s1).same s2, r1, by omega, by omega, rn, sL, lB, sM, lC, zd k kN, zm, fun b H3 zs s3 nb hb mb => ?_⟩
    have hp3 := s3 _ _ hp2
    refine ⟨_, rfl, _, rfl, pa, ps, -1, z, rfl, rfl, SqL.of hp3, last_ix lp ez, .ref b, z, _, dsL n rows r0 k, rfl, ⟨b, zs, rfl, hb, mb⟩, (lz.same s2).same s3, by rw [mixL_len, dl], by rw [mixL_len]; omega, om k kl, (zd k kN).ok sL lB, fun b2 H4 ws s4 nb2 hb2 mb2 => ?_⟩
    have hp4 := s4 _ _ hp3
    have np4 := (np2.same s3).same s4
    have nb' : b2 ≠ pa := fun z => by rw [z, hp3] at nb2; cases nb2
    refine ⟨pa, ps, _, rfl, rfl, hp4, small1000 (by omega), ?_, rfl, ps ++ [.ref b2], upd_same, ?_, ?_⟩
    · intro c o hc
      have nc : c ≠ pa := fun z => by rw [z, np] at hc; cases hc
      rw [upd_ne nc]
      exact s4 _ _ (s3 _ _ (s2 _ _ (s1 _ _ hc)))
    · have bu : But pa H4 (upd H4 pa (.lst (ps ++ [V.ref b2]))) := fun e o n h => by rw [upd_ne n]; exact h
      have r2 : (List.range (k + 1 + 1)).map (dsL n rows r0) = (List.range (k + 1)).map (dsL n rows r0) ++ [(mixL n (dsL n rows r0 k) rows).zipWith (· - ·) (dsL n rows r0 k)] := by
        rw [List.range_succ, List.map_append]
        rfl
      rw [r2]
      refine Lsl.snoc ⟨np4.1, fun i x r h1 h2 => (np4.2 i x r h1 h2).butL hp4 (hne x (List.mem_of_getElem? h1)) bu⟩ ?_
      exact (Ls.butL ⟨b2, ws, rfl, hb2, mb2⟩ hp4 (fun z => nb' (V.ref.inj z)) bu)
    · intro x hx
      rcases List.mem_append.mp hx with hx | hx
      · exact hne x hx
      · obtain rfl := List.mem_singleton.mp hx
        exact fun z => nb' (V.ref.inj z)
  | true =>
    rw [if_neg (show ¬ (!true) = true by decide)]
    exact ⟨_, rfl, q k kN c pa H2 ps (s1.trans s2) np hp2 np2⟩
theorem scBn : FnScope nBn ["t", "many"] (defScope F_binomials) := ⟨rfl, rfl, rfl, by decide +kernel, rfl, by decide +kernel, by decide +kernel⟩
theorem ok_bns (F : Fun K "binomials" "binomials" F_binomials f fd) (k1 : KP K o1 1 1) (mO : mg "ONE" = some (.ref o1)) (mr : mg "range" = none) (UP : Use P w K mg base CX0 2 "product_of" ["one", "other"] (spTwoQ K (· * ·)) []) (UQ : Use P w K mg base CX0 2 "quotient_of" ["one", "other"] (spDivQ K) []) (UD : Use P w K mg base CX0 2 "difference_of" ["one", "other"] (spTwoQ K (· - ·)) []) : FnOk P w K mg base CX0 3 f fd ["t", "many"] (spBns K) := by
  refine F.ok scBn (fun vs H Q E h => ?_) (fun cdv A outer s H vs Q E hr h => ?_)
  · obtain ⟨x, t, m, rfl, _⟩ := h
    rfl
  obtain ⟨x, t, m, rfl, hx, m1, m30, ot, bo, q⟩ := h
  refine ⟨_, pss_cons (ps_set (i := 2) scBn.nd rfl (Or.inl rfl) (pe_lst (pa_cons (C8.pe_gc (v := .ref o1) rfl ⟨_, mO, rfl⟩) pa_nil)))
    (pss_cons (ps_for PassesOwn.never rfl (pi_range2 rfl mr (pa_cons pe_int (pa_cons (pv 1) pa_nil))) (pg_name (i := 3) scBn.nd rfl (Or.inl rfl))
      (pss_one (ps_expr (pe_bm PySem.F.plainAttrs_list PySem.F.slot_list_append PySem.F.type_list_append mt_append (pv 2) (pa_cons (pe_use UP hr rfl pass0 (pa_cons (pe_ix ix_list (pv 2) (pe_un un_neg pe_int) (fun _ _ => rfl)) (pa_cons (pe_use UQ hr rfl pass0 (pa_cons (pe_use UD hr rfl pass0 (pa_cons (pv 0) (pa_cons (pe_tup (pa_cons (pe_op op_sub (pv 3) pe_int) (pa_cons pe_int pa_nil))) pa_nil))) (pa_cons (pe_tup (pa_cons (pv 3) (pa_cons pe_int pa_nil))) pa_nil))) pa_nil))) pa_nil)))))
    (pss_one (ps_ret (pv 2)))), ?_⟩
  refine ⟨(by show 1 ≤ sizeLine; decide), fun pa np => ?_⟩
  have s0 := new_same np (.lst [V.ref o1])
  refine ⟨_, rfl, 1, (m : Int), rfl, ⟨by omega, by omega, by omega, by omega⟩, for_range (lo := 1) (n := ((m : Int) - 1).toNat) (fun i σ H' => Same H H' ∧ (∃ v3, σ = [some x, some (.int (m : Nat)), some (.ref pa), v3]) ∧ ∃ zs, H' pa = some (.lst zs) ∧ Nl K H' zs (bnL t (i + 1))) ⟨s0, ⟨none, rfl⟩, [.ref o1], upd_same, ?_⟩ ?_ ?_⟩
  · exact Nl.cons ⟨o1, rfl, .inr k1⟩ Nl.nil
  · rintro i σ H1 hi ⟨s1, ⟨v3, rfl⟩, zs, hz, nz⟩
    have im : i + 1 < m := by omega
    have zl : zs.length = i + 1 := by rw [nz.1, bnL_len]
    obtain ⟨z, ez, nzz⟩ := nz.get' (i := i) (by rw [bnL_len]; omega)
    have er : (bnL t (i + 1))[i]'(by rw [bnL_len]; omega) = bnR t i := by
      unfold bnL
      rw [List.getElem_map, List.getElem_range]
    rw [er] at nzz
    refine ⟨_, rfl, .inl ⟨rfl, _, SqL.of hz⟩, _, rfl, _, rfl, pa, zs, -1, z, rfl, rfl, SqL.of hz, last_ix zl ez, _, rfl, _, rfl, 1 + (i : Int), 1, rfl, rfl, (by show 2 ≤ sizeLine; decide), fun t1 nt1 => ?_⟩
    have e1 : (1 + (i : Int) - 1) = ((i : Nat) : Int) := by omega
    have g1 := new_same nt1 (.tup [.int (1 + (i : Int) - 1), .int 1])
    have n1 : Nq K (upd H1 t1 (.tup [.int (1 + (i : Int) - 1), .int 1])) (.ref t1) ((i : Nat) : Rat) := Nq.nat (by rw [upd_same, e1])
    generalize upd H1 t1 (.tup [.int (1 + (i : Int) - 1), .int 1]) = H2 at g1 n1
    refine ⟨x, .ref t1, t, (i : Rat), rfl, (hx.same s1).same g1, n1, ot, Ok.nat (Nat.lt_of_lt_of_le (show i < 30 by omega) (by decide)), fun p2 H3 s3 nn3 e3 => ?_⟩
    refine ⟨_, rfl, (by show 2 ≤ sizeLine; decide), fun t2 nt2 => ?_⟩
    have g2 := new_same nt2 (.tup [.int (1 + (i : Int)), .int 1])
    have e2 : (1 + (i : Int)) = ((i + 1 : Nat) : Int) := by omega
    have n2 : Nq K (upd H3 t2 (.tup [.int (1 + (i : Int)), .int 1])) (.ref t2) ((i + 1 : Nat) : Rat) := Nq.nat (by rw [upd_same, e2])
    have e3' := g2 _ _ e3
    generalize upd H3 t2 (.tup [.int (1 + (i : Int)), .int 1]) = H4 at g2 n2 e3'
    refine ⟨.ref p2, .ref t2, t - (i : Rat), ((i + 1 : Nat) : Rat), rfl, .at e3', n2, bo.d i im, Ok.nat (Nat.lt_of_lt_of_le (show i + 1 < 30 by omega) (by decide)), nat_ne (by omega), ?_, fun p3 H5 s5 nn5 e5 => ?_⟩
    · show ((i + 1 : Nat) : Int).natAbs < _
      rw [Int.natAbs_natCast]
      exact Nat.lt_of_lt_of_le (show i + 1 < 2 ^ 5 by omega) (Nat.pow_le_pow_right (by decide) (by decide))
    have gA := g1.trans (s3.trans (g2.trans s5))
    refine ⟨z, .ref p3, bnR t i, (t - (i : Rat)) / ((i + 1 : Nat) : Rat), rfl, nzz.same gA, .at e5, bo.b i (by omega), bo.q i im, fun p4 H6 s6 nn6 e6 => ?_⟩
    have gB := gA.trans s6
    have hz6 := gB _ _ hz
    refine ⟨pa, zs, _, rfl, rfl, hz6, small1000 (by omega), ?_, ⟨_, rfl⟩, zs ++ [.ref p4], upd_same, ?_⟩
    · intro c o hc
      have nc : c ≠ pa := fun z => by rw [z, np] at hc; cases hc
      rw [upd_ne nc]
      exact gB _ _ (s1 _ _ hc)
    · have nb : Nl K H6 (zs ++ [.ref p4]) (bnL t (i + 1 + 1)) := by
        have : bnL t (i + 1 + 1) = bnL t (i + 1) ++ [bnR t (i + 1)] := by
          unfold bnL
          rw [List.range_succ, List.map_append]
          rfl
        rw [this]
        exact (nz.same gB).snoc (.at e6)
      exact ⟨nb.1, fun j x r h1 h2 => (nb.2 j x r h1 h2).butL hz6 (fun b o n h => by rw [upd_ne n]; exact h)⟩
  · rintro σ H1 ⟨s1, ⟨v3, rfl⟩, zs, hz, nz⟩
    rw [show ((m : Int) - 1).toNat + 1 = m by omega] at nz
    exact ⟨_, rfl, q pa H1 zs s1 np hz nz⟩
theorem scBpw : FnScope ["found", "t"] ["found", "t"] (defScope F_binomial_power) := ⟨rfl, rfl, rfl, by decide +kernel, rfl, by decide +kernel, by decide +kernel⟩
theorem ok_bpw (F : Fun K "binomial_power" "binomial_power" F_binomial_power f fd) (mn : mg "len" = none) (UM : Use P w K mg base CX0 3 "mixed" ["factors", "lists"] (spMix K) []) (UB : Use P w K mg base CX0 3 "binomials" ["t", "many"] (spBns K) []) : FnOk P w K mg base CX0 4 f fd ["found", "t"] (spBpw K) := by
  refine F.ok scBpw (fun vs H Q E h => ?_) (fun cdv A outer s H vs Q E hr h => ?_)
  · obtain ⟨x, y, t, rows, n, L, B, M, C, rfl, _⟩ := h
    rfl
  obtain ⟨x, y, t, rows, n, L, B, M, C, rfl, lx, hy, r1, r30, n30, rn, ot, bo, sL, lB, sM, lC, zb, zr, q⟩ := h
  refine ⟨_, pss_one (ps_ret (pe_use UM hr rfl pass0 (pa_cons (pe_use UB hr rfl pass0 (pa_cons (pv 1) (pa_cons (pe_callB call_len_seq rfl mn PySem.boot_len (pa_cons (pv 0) pa_nil)) pa_nil))) (pa_cons (pv 0) pa_nil)))), ?_⟩
  obtain ⟨xa, xs, rfl, hx, nx⟩ := id lx
  refine ⟨_, rfl, _, rfl, xa, xs, rfl, .inl (SqL.of hx), y, t, rows.length, ?_, hy, r1, r30, ot, bo, fun b H1 zs s1 nb hb mb => ?_⟩
  · rw [nx.1]
    rfl
  refine ⟨_, rfl, .ref b, _, bnL t rows.length, rows, n, L, B, M, C, rfl, ⟨b, zs, rfl, hb, mb⟩, lx.same s1, r1, by omega, n30, rn, sL, lB, sM, lC, zb, zr, fun d H2 ys s2 nd hd md => q d H2 ys (s1.trans s2) (s1.free nd) hd md⟩
end
end Kx
end
section
set_option maxHeartbeats 4000000
namespace Kx
open PySem PySem.Spec PyProof.Rows L2 RZ
/-! ### the differences of a step and its power by a fraction, as lists -/
def dfL (qs : List Rat) (k : Nat) : List Rat := toT qs.length (dfK (serS qs) k)
def pwL (qs : List Rat) (t : Rat) : List Rat := toT qs.length (pwF (serS qs) t qs.length)
theorem pwL_len (qs : List Rat) (t : Rat) : (pwL qs t).length = qs.length := toT_len _ _
def stL (n : Nat) : List Rat := 1 :: List.replicate (n - 1) 0
theorem stL_len {n : Nat} (h : 1 ≤ n) : (stL n).length = n := by
  unfold stL
  rw [List.length_cons, List.length_replicate]
  omega
theorem serS_still (n : Nat) : serS (1 :: List.replicate n 0) = xS := by
  funext i
  match i with
  | 0 => rfl
  | 1 => rfl
  | i + 2 =>
    show (List.replicate n (0 : Rat)).getD i 0 = 0
    rw [List.getD_eq_getElem?_getD, List.getElem?_replicate]
    split <;> rfl
theorem stL_toT {n : Nat} (h : 1 ≤ n) : stL n = toT n xS := by
  have e := toT_serS (stL n)
  rw [stL_len h] at e
  have : serS (stL n) = xS := serS_still (n - 1)
  rw [this] at e
  exact e.symm
theorem toT_sub {n : Nat} (f g : Ser) : (toT n f).zipWith (· - ·) (toT n g) = toT n (fun i => f i - g i) := by
  apply List.ext_getElem?
  intro i
  rw [List.getElem?_zipWith]
  rcases Nat.lt_or_ge i n with c | c
  · rw [toT_get c, toT_get c, toT_get c]
  · rw [List.getElem?_eq_none (l := toT n f) (by rw [toT_len]; exact c), List.getElem?_eq_none (l := toT n (fun i => f i - g i)) (by rw [toT_len]; exact c)]
theorem mix_toT {n : Nat} {u : Ser} {qs : List Rat} (l : qs.length = n) (u0 : u 0 = 0) : mixL n (toT n u) (tabL qs) = toT n (cmpS u (serS qs)) := by
  have e := mix_step (qs := toT n u) (rs := qs) (by rw [toT_len, l])
  rw [l] at e
  rw [e]
  unfold cmpL
  rw [toT_len]
  exact toT_eq (EqTo.cmp (serS_toT u0) (fun _ _ => rfl))
theorem dsL_df {qs : List Rat} (l1 : 1 ≤ qs.length) : ∀ k, dsL qs.length (tabL qs) (stL qs.length) k = dfL qs k
  | 0 => stL_toT l1
  | k + 1 => by
    show (mixL qs.length (dsL qs.length (tabL qs) (stL qs.length) k) (tabL qs)).zipWith (· - ·) _ = _
    rw [dsL_df l1 k]
    unfold dfL
    rw [mix_toT rfl (df_zero rfl k), toT_sub]
    rfl
theorem zr_iff {qs : List Rat} : zr qs = true ↔ ∀ q ∈ qs, q = 0 := by
  unfold zr
  rw [List.all_eq_true]
  exact ⟨fun h q hq => of_decide_eq_true (h q hq), fun h q hq => decide_eq_true (h q hq)⟩
theorem zr_toT {n : Nat} {f : Ser} : zr (toT n f) = true ↔ ∀ i, i < n → f (i + 1) = 0 := by
  rw [zr_iff]
  constructor
  · intro h i hi
    exact h _ (List.mem_of_getElem? (toT_get hi))
  · intro h q hq
    obtain ⟨i, hi⟩ := List.getElem?_of_mem hq
    rcases Nat.lt_or_ge i n with c | c
    · rw [toT_get c] at hi
      rw [← Option.some.inj hi]
      exact h i c
    · rw [List.getElem?_eq_none (by rw [toT_len]; exact c)] at hi
      cases hi
theorem df_end {qs : List Rat} (h : serS qs 1 = 1) : zr (dfL qs qs.length) = true := zr_toT.mpr fun i hi => df_low rfl h qs.length (i + 1) (by omega)
/-- once all are 0 they stay so -/
theorem df_stay {qs : List Rat} {N : Nat} (h : zr (dfL qs N) = true) : ∀ k, N ≤ k → ∀ i, i < qs.length → dfK (serS qs) k (i + 1) = 0 := by
  intro k hk
  induction hk with
  | refl => exact zr_toT.mp h
  | step hk ih =>
    rename_i m
    intro i hi
    show cmpS (dfK (serS qs) m) (serS qs) (i + 1) - dfK (serS qs) m (i + 1) = 0
    have e : cmpS (dfK (serS qs) m) (serS qs) (i + 1) = 0 := sum_zero fun j hj => by
      match j, hj with
      | 0, _ => rw [df_zero rfl, Rat.zero_mul]
      | j + 1, hj => rw [ih j (by omega), Rat.zero_mul]
    rw [e, ih i hi]
    grind
theorem sum_tail {f : Nat → Rat} {a m : Nat} (l : a ≤ m) (h : ∀ k, a ≤ k → f k = 0) : sumN f m = sumN f a := sum_more l h
theorem mix_pw {qs : List Rat} {t : Rat} {N : Nat} (hN : zr (dfL qs N) = true) (le : N ≤ qs.length) : mixL qs.length (bnL t (N + 1)) ((List.range (N + 1)).map (dfL qs)) = pwL qs t := by
  unfold mixL pwL
  apply List.ext_getElem?
  intro i
  rcases Nat.lt_or_ge i qs.length with c | c
  · rw [toT_get c, List.getElem?_map, List.getElem?_range c]
    show some (dotL _ _) = some _
    congr 1
    unfold dotL
    rw [bnL_len, List.length_map, List.length_map, List.length_range, Nat.min_self, dotT_sum]
    have e : sumN (fun k => ser (bnL t (N + 1)) k * ser (((List.range (N + 1)).map (dfL qs)).map fun r => r.getD i 0) k) (N + 1) = sumN (fun k => bnR t k * dfK (serS qs) k (i + 1)) (N + 1) := sum_congr fun k hk => by
      have e1 : ser (bnL t (N + 1)) k = bnR t k := by
        show List.getD _ _ _ = _
        unfold bnL
        rw [List.getD_eq_getElem?_getD, List.getElem?_map, List.getElem?_range hk]
        rfl
      have e2 : ser (((List.range (N + 1)).map (dfL qs)).map fun r => r.getD i 0) k = dfK (serS qs) k (i + 1) := by
        show List.getD _ _ _ = _
        rw [List.getD_eq_getElem?_getD, List.getElem?_map, List.getElem?_map, List.getElem?_range hk]
        show (dfL qs k).getD i 0 = _
        unfold dfL
        rw [List.getD_eq_getElem?_getD, toT_get c]
        rfl
      rw [e1, e2]
    rw [e]
    have z : ∀ k, N ≤ k → bnR t k * dfK (serS qs) k (i + 1) = 0 := fun k hk => by rw [df_stay hN k hk i c, Rat.mul_zero]
    show _ = sumN (fun k => bnR t k * dfK (serS qs) k (i + 1)) qs.length
    rw [sum_tail (Nat.le_succ N) z, sum_tail le z]
  · rw [List.getElem?_eq_none (by rw [List.length_map, List.length_range]; exact c), List.getElem?_eq_none (by rw [toT_len]; exact c)]
/-- the sizes that a power of a slow step wants -/
structure PwOk (qs : List Rat) (t : Rat) : Prop where
  ex : ∃ L B M C E F : Nat, SmL L ∧ B ≤ 100000 ∧ PowD L B qs ∧ SmL M ∧ C + 1 ≤ 100000 ∧ (∀ k, k ≤ qs.length → AllD M C (dfL qs k)) ∧ Ok t ∧ BnOk t (qs.length + 1) ∧ SmL E ∧ F ≤ 100000 ∧ AllD E F (bnL t (qs.length + 1))
theorem BnOk.less {t : Rat} {n m : Nat} (h : BnOk t n) (l : m ≤ n) : BnOk t m := ⟨fun k hk => h.b k (by omega), fun k hk => h.d k (by omega), fun k hk => h.q k (by omega)⟩
theorem bn_less {E F : Nat} {t : Rat} {n m : Nat} (h : AllD E F (bnL t n)) (l : m ≤ n) : AllD E F (bnL t m) := fun q hq => by
  unfold bnL at hq
  obtain ⟨k, hk, rfl⟩ := List.mem_map.mp hq
  rw [List.mem_range] at hk
  exact h _ (List.mem_map.mpr ⟨k, List.mem_range.mpr (by omega), rfl⟩)
theorem cmp_d {M C : Nat} {qs : List Rat} {k : Nat} (h1 : AllD M C (dfL qs k)) (h2 : AllD M C (dfL qs (k + 1))) : AllD M (C + 1) (toT qs.length (cmpS (dfK (serS qs) k) (serS qs))) := fun q hq => by
  obtain ⟨i, hi⟩ := List.getElem?_of_mem hq
  rcases Nat.lt_or_ge i qs.length with c | c
  · rw [toT_get c] at hi
    have a := h1 _ (List.mem_of_getElem? (toT_get (F := dfK (serS qs) k) c))
    have b := h2 _ (List.mem_of_getElem? (toT_get (F := dfK (serS qs) (k + 1)) c))
    have e : q = dfK (serS qs) (k + 1) (i + 1) + dfK (serS qs) k (i + 1) := by
      rw [← Option.some.inj hi]
      show _ = cmpS (dfK (serS qs) k) (serS qs) (i + 1) - dfK (serS qs) k (i + 1) + dfK (serS qs) k (i + 1)
      grind
    rw [e]
    exact b.add a (by omega) (by omega)
  · rw [List.getElem?_eq_none (by rw [toT_len]; exact c)] at hi
    cases hi
def spPwF (K : PySem.W.Frag) (S : Addr) : Sp := fun vs H Q _ => ∃ (v x : V) (qs : List Rat) (t : Rat), vs = [v, x] ∧ StAt K S H v qs ∧ Nq K H x t ∧ serS qs 1 = 1 ∧ PwOk qs t ∧ GivesF K S H Q (pwL qs t)
theorem kit_tup : kitB "tuple" "int" = some false ∧ kitB "tuple" "bool" = some false := by decide +kernel
theorem Nq.inR {K : PySem.W.Frag} {H : Hp} {v : V} {q : Rat} {lo hi : Int} (h : Nq K H v q) : InR K H v lo hi false := by
  refine ⟨false, fun H' s => ?_, .inl ⟨rfl, rfl⟩⟩
  obtain ⟨a, rfl, _, ty⟩ := (h.same s).sq
  exact ⟨.type "tuple", false, false, ty, kit_ty kit_tup.1, kit_ty kit_tup.2, rfl⟩
theorem StAt.nb {K : PySem.W.Frag} {S : Addr} {H : Hp} {v : V} {qs : List Rat} (h : StAt K S H v qs) : ∃ (x dx b : Addr) (xs : List V) (fs : List (Str × V)), v = .ref x ∧ H x = some (.ins S dx fs) ∧ H b = some (.lst xs) ∧ Nl K H xs qs ∧ fs.lookup ("_numbers" : Str) = some (.ref b) ∧ fs.lookup ("order" : Str) = some (.int (qs.length : Int)) := by
  obtain ⟨x, dx, b, xs, fs, e, h1, h2, h3, h4, h5, _⟩ := h.num
  exact ⟨x, dx, b, xs, fs, e, h1, h2, h3, h4, h5⟩
section
variable {P : Program} {w : World} {K : PySem.W.Frag} {mg : Str → Option Value} {base : Heap} {f C S CF CO CN o0 o1 : Addr} {fd : FuncData} {H : Hp}
theorem scPwS : FnScope ["self", "t", "found"] ["self", "t"] (defScope C_Step_power) := ⟨rfl, rfl, rfl, by decide +kernel, rfl, by decide +kernel, by decide +kernel⟩
theorem ok_spower (G : Fun K "power" "Step.power" C_Step_power f fd) (k : StepK P w K mg base C S CF CO) (UB : Use P w K mg base CX0 2 "is_between" ["value", "low", "high"] (spBtw K) []) (UF : Use P w K mg base CX0 2 "is_fraction" ["value"] (spIsG K) []) (UC : Use P w K mg base (L2.CX P w) 3 "check_slow" ["step"] (spCkS K S CN) [])
    (UD : Use P w K mg base CX0 4 "differences" ["numbers", "lines"] (spDfs K) []) (US : Use P w K mg base CX0 1 "still_numbers" ["order"] (spSn K) []) (UT : Use P w K mg base CX0 3 "table_lines" ["numbers"] (spTab K) []) (UP : Use P w K mg base CX0 4 "binomial_power" ["found", "t"] (spBpw K) [])
    (mM : ∃ u, mg "MOST_POWER" = some u ∧ RelV (.int 64) u) : FnOk P w K mg base (L2.CX P w) 8 f fd ["self", "t"] (spPwF K S) := by
  refine G.okX scPwS (fun vs H Q E h => ?_) (fun cdv A outer s H vs Q E hr h => ?_)
  · obtain ⟨v, x, qs, t, rfl, _⟩ := h
    rfl
  obtain ⟨v, y, qs, t, rfl, hX, hy, hs, po, gv⟩ := h
  obtain ⟨x, dx, b, xs, fs, rfl, hx, hb, nx, f1, f2⟩ := hX.nb
  obtain ⟨l2, l24⟩ := hX.le
  have l1 : 1 ≤ qs.length := by omega
  obtain ⟨L, B, M, C, E', F, sL, lB, zp, sM, lC, zd, ot, bo, sE, lF, zb⟩ := po.ex
  obtain ⟨fI, fdI, MM, FI, bI⟩ := k.ini
  refine ⟨_, pss_cons (ps_if (pt_val (pe_use UB (hr.mono (by decide)) rfl pass0 (pa_cons (pv 1) (pa_cons (pe_un un_neg (C8.pe_gc rfl mM)) (pa_cons (C8.pe_gc rfl mM) pa_nil)))))
      (pss_cons ps_never (pss_one ps_never)) pss_nil)
    (pss_cons (ps_if (pt_not (pt_val (pe_use UF (hr.mono (by decide)) rfl pass0 (pa_cons (pv 1) pa_nil)))) (pss_one ps_never) pss_nil)
    (pss_cons (ps_expr (pe_use (E := E) UC (hr.mono (by decide)) rfl (passes_call (takes_of rfl rfl rfl rfl) (fun _ _ _ _ h => h)) (pa_cons (pv 0) pa_nil)))
    (pss_cons (ps_set (i := 2) scPwS.nd rfl (Or.inl rfl) (pe_use UD (hr.mono (by decide)) rfl pass0 (pa_cons (pe_use US (hr.mono (by decide)) rfl pass0 (pa_cons (pe_fld (pv 0) rfl) pa_nil)) (pa_cons (pe_use UT (hr.mono (by decide)) rfl pass0 (pa_cons (pe_fld (pv 0) rfl) pa_nil)) pa_nil))))
    (pss_one (ps_ret (pe_make (E := E) MM FI hr rfl k.m bI .nil (passes_call (takes_of rfl rfl rfl rfl) (fun _ _ _ _ h => h)) (pa_cons (pe_use UP (hr.mono (by decide)) rfl pass0 (pa_cons (pv 2) (pa_cons (pv 1) pa_nil))) pa_nil))))))), ?_⟩
  refine ⟨_, rfl, 64, rfl, y, -64, 64, false, rfl, hy.inR, _, rfl, iteF ?_⟩
  refine ⟨_, rfl, y, true, rfl, hy.isG, _, rfl, iteF ?_⟩
  refine ⟨_, rfl, .ref x, qs, rfl, hX, fun _ => ?_, fun n => absurd hs n⟩
  refine ⟨_, rfl, x, S, dx, _, _, rfl, hx, k.c, k.nA _ (by simp [stN]), f2, qs.length, rfl, l2, l24, fun b1 H1 ys s1 nb1 hb1 mb1 => ?_⟩
  refine ⟨_, rfl, x, S, dx, _, _, rfl, s1 _ _ hx, k.c, k.nA _ (by simp [stN]), f1, .ref b, qs, L, B, rfl, ⟨b, xs, rfl, s1 _ _ hb, nx.same s1⟩, l1, l24, sL, lB, zp, fun b2 H2 zs s2 nb2 hb2 mb2 => ?_⟩
  refine ⟨.ref b1, .ref b2, stL qs.length, tabL qs, qs.length, M, C, L, B, qs.length, rfl, ⟨b1, ys, rfl, s2 _ _ hb1, mb1.same s2⟩, ⟨b2, zs, rfl, hb2, mb2⟩, stL_len l1, by rw [tabL_len]; exact l1, by rw [tabL_len]; exact l24, tabL_row, l24, sM, by omega, sL, lB, tabL_d zp, fun k hk => by rw [dsL_df l1]; exact zd k hk, fun k hk => ?_, l24, by rw [dsL_df l1]; exact df_end hs, fun N' hN hz b3 H3 ws s3 nb3 hb3 mb3 => ?_⟩
  · rw [dsL_df l1]
    unfold dfL
    rw [mix_toT rfl (df_zero rfl k)]
    exact (cmp_d (zd k (by omega)) (zd (k + 1) hk)).ok sM (by omega)
  rw [dsL_df l1] at hz
  have em : (List.range (N' + 1)).map (dsL qs.length (tabL qs) (stL qs.length)) = (List.range (N' + 1)).map (dfL qs) := List.map_congr_left fun k _ => dsL_df l1 k
  rw [em] at mb3
  have sA := s1.trans (s2.trans s3)
  refine ⟨_, rfl, _, rfl, .ref b3, y, t, (List.range (N' + 1)).map (dfL qs), qs.length, E', F, M, C, rfl, ⟨b3, ws, rfl, hb3, mb3⟩, hy.same sA, by rw [List.length_map, List.length_range]; omega, by rw [List.length_map, List.length_range]; omega, by omega, fun r hr => ?_, ot, ?_, sE, lF, sM, by omega, ?_, fun r hr => ?_, fun d H4 us s4 nd hd md => ?_⟩
  · obtain ⟨k, _, rfl⟩ := List.mem_map.mp hr
    exact toT_len _ _
  · rw [List.length_map, List.length_range]
    exact bo.less (by omega)
  · rw [List.length_map, List.length_range]
    exact bn_less zb (by omega)
  · obtain ⟨k, hk, rfl⟩ := List.mem_map.mp hr
    exact zd k (by have := List.mem_range.mp hk; omega)
  rw [List.length_map, List.length_range, mix_pw hz hN] at md
  exact step_new (sA.trans s4) (.inl hd) md (by rw [pwL_len]; exact l2) (by rw [pwL_len]; exact l24) gv
end
end Kx
end
section
set_option maxHeartbeats 4000000
namespace Kx
open PySem PySem.Spec PyProof.Rows L2 RZ
/-! ### sizes -/
theorem Dq.dv {L M B C : Nat} {a : Rat} (h : Dq L B a) (d : L ∣ M) (m0 : 0 < M) (c : M < 2 ^ C) : Dq M (B + C) a := by
  obtain ⟨k, rfl⟩ := d
  refine h.up k rfl (Nat.le_of_lt (Nat.lt_of_le_of_lt ?_ c))
  rcases Nat.eq_zero_or_pos L with z | z
  · rw [z, Nat.zero_mul] at m0
    omega
  · exact Nat.le_mul_of_pos_left k z
theorem dq_sum {L B : Nat} {f : Nat → Rat} {c : Nat} : ∀ m, (∀ i, i < m → Dq L B (f i)) → m ≤ 2 ^ c → Dq L (B + c) (sumN f m) := by
  intro m h hc
  have key : ∀ m, (∀ i, i < m → Dq L B (f i)) → ∃ z : Int, sumN f m * (L : Rat) = (z : Rat) ∧ z.natAbs ≤ m * (2 ^ B - 1) := by
    intro m
    induction m with
    | zero => intro _; exact ⟨0, by show (0 : Rat) * _ = _; rw [Rat.zero_mul]; rfl, by simp⟩
    | succ m ih =>
      intro h
      obtain ⟨z, e, l⟩ := ih fun i hi => h i (by omega)
      obtain ⟨y, e', l'⟩ := h m (by omega)
      refine ⟨z + y, ?_, ?_⟩
      · show (sumN f m + f m) * _ = _
        rw [Rat.add_mul, e, e', Rat.intCast_add]
      · have := Int.natAbs_add_le z y
        rw [Nat.succ_mul]
        omega
  obtain ⟨z, e, l⟩ := key m h
  refine ⟨z, e, ?_⟩
  have p : 0 < 2 ^ B := Nat.pow_pos (by decide)
  have p2 : 0 < 2 ^ c := Nat.pow_pos (by decide)
  have h1 : m * (2 ^ B - 1) ≤ 2 ^ c * (2 ^ B - 1) := Nat.mul_le_mul_right _ hc
  rw [Nat.add_comm B c, Nat.pow_add]
  have h2 : 2 ^ c * (2 ^ B - 1) < 2 ^ c * 2 ^ B := Nat.mul_lt_mul_of_pos_left (by omega) p2
  omega
/-- the number at the place k is whole over D ^ (k - 1), and at the place 1 it is 0, 1 or -1 -/
structure Gm (D m : Nat) (F : Ser) (n : Nat) : Prop where
  z : F 0 = 0
  g : ∀ k, k < n → Dq (D ^ k) (m * k + 1) (F (k + 1))
theorem Gm.mono {D m m' n : Nat} {F : Ser} (h : Gm D m F n) (l : m ≤ m') : Gm D m' F n := ⟨h.z, fun k hk => (h.g k hk).mono (by have := Nat.mul_le_mul_right k l; omega)⟩
theorem Gm.pow {D m n : Nat} {F : Ser} (h : Gm D m F n) (n16 : n ≤ 15) : ∀ j k, j + k < n → Dq (D ^ k) (m * k + 5 * (j + 1)) (powS F (j + 1) (j + 1 + k))
  | 0, k, hk => by
    rw [powS_one, Nat.add_comm (0 + 1) k]
    exact (h.g k (by omega)).mono (by omega)
  | j + 1, k, hk => by
    show Dq _ _ (sumN (fun i => powS F (j + 1) i * F (j + 1 + 1 + k - i)) (j + 1 + 1 + k + 1))
    refine (dq_sum (B := m * k + (5 * (j + 1) + 1)) (c := 4) _ (fun i hi => ?_) (by omega)).mono (by omega)
    rcases Nat.lt_or_ge i (j + 1) with c | c
    · rw [powS_low h.z (j + 1) i c, Rat.zero_mul]
      exact Dq.zero
    rcases Nat.lt_or_ge i (j + 1 + 1 + k) with d | d
    · have a := Gm.pow h n16 j (i - (j + 1)) (by omega)
      have b := h.g (j + 1 + k - i) (by omega)
      rw [show j + 1 + (i - (j + 1)) = i by omega] at a
      rw [show j + 1 + k - i + 1 = j + 1 + 1 + k - i by omega] at b
      have ab := a.mul b
      rw [← Nat.pow_add, show i - (j + 1) + (j + 1 + k - i) = k by omega] at ab
      refine ab.mono ?_
      have : m * (i - (j + 1)) + m * (j + 1 + k - i) = m * k := by rw [← Nat.mul_add, show i - (j + 1) + (j + 1 + k - i) = k by omega]
      omega
    · rw [show j + 1 + 1 + k - i = 0 by omega, h.z, Rat.mul_zero]
      exact Dq.zero
theorem Gm.cmp {D m n : Nat} {u F : Ser} (hu : Gm D m u n) (h : Gm D m F n) (n16 : n ≤ 15) : Gm D (m + 15) (cmpS u F) n := by
  refine ⟨by rw [cmpS_zero, hu.z], fun k hk => ?_⟩
  rw [← cmpS_to h.z (show k + 1 < k + 2 by omega), sum_first, hu.z, Rat.zero_mul, Rat.zero_add]
  match k, hk with
  | 0, hk =>
    have e : sumN (fun i => u (i + 1) * powS F (i + 1) (0 + 1)) (0 + 1) = u 1 * F 1 := by
      show (0 : Rat) + u 1 * powS F 1 1 = _
      rw [powS_one, Rat.zero_add]
    rw [e]
    obtain ⟨x, ex, lx⟩ := hu.g 0 hk
    obtain ⟨y, ey, ly⟩ := h.g 0 hk
    refine ⟨x * y, ?_, ?_⟩
    · rw [Rat.intCast_mul, ← ex, ← ey]
      have : ((D ^ 0 : Nat) : Rat) = 1 := rfl
      rw [this]
      grind
    · rw [Nat.mul_zero, Nat.zero_add] at lx ly ⊢
      rw [Int.natAbs_mul]
      have : x.natAbs * y.natAbs ≤ 1 * 1 := Nat.mul_le_mul (by omega) (by omega)
      omega
  | k + 1, hk =>
    refine (dq_sum (B := m * (k + 1) + (5 * (k + 2) + 1)) (c := 4) _ (fun i hi => ?_) (by omega)).mono (by rw [Nat.add_mul]; omega)
    have a := hu.g i (by omega)
    have b := h.pow n16 i (k + 1 - i) (by omega)
    rw [show i + 1 + (k + 1 - i) = k + 1 + 1 by omega] at b
    have ab := a.mul b
    rw [← Nat.pow_add, show i + (k + 1 - i) = k + 1 by omega] at ab
    refine ab.mono ?_
    have : m * i + m * (k + 1 - i) = m * (k + 1) := by rw [← Nat.mul_add, show i + (k + 1 - i) = k + 1 by omega]
    omega
theorem Gm.sub {D m n : Nat} {u F : Ser} (hu : Gm D m u n) (h : Gm D m F n) (e : u 1 = F 1) : Gm D (m + 1) (fun i => u i - F i) n := by
  refine ⟨?_, fun k hk => ?_⟩
  · show u 0 - F 0 = 0
    rw [hu.z, h.z]
    grind
  match k, hk with
  | 0, hk =>
    show Dq _ _ (u 1 - F 1)
    rw [e, show F 1 - F 1 = 0 by grind]
    exact Dq.zero
  | k + 1, hk => exact (hu.g (k + 1) hk).sub (h.g (k + 1) hk) (by rw [Nat.add_mul]; omega) (by rw [Nat.add_mul]; omega)
theorem Gm.x {D n : Nat} : Gm D 0 xS n := by
  refine ⟨rfl, fun k hk => ?_⟩
  match k with
  | 0 => exact Dq.one (show 1 < 2 ^ 1 by decide)
  | k + 1 => exact Dq.zero
theorem Gm.df {D m n : Nat} {f : Ser} (h : Gm D m f n) (f1 : f 1 = 1) (n16 : n ≤ 15) : ∀ k, Gm D (m + 16 * k) (dfK f k) n
  | 0 => Gm.x.mono (by omega)
  | k + 1 => by
    have a := Gm.df h f1 n16 k
    have b := a.cmp (h.mono (show m ≤ m + 16 * k by omega)) n16
    refine (b.sub (a.mono (by omega)) ?_).mono (by omega)
    show cmpS (dfK f k) f 1 = dfK f k 1
    rw [← cmpS_to h.z (show 1 < 2 by omega)]
    show (0 : Rat) + dfK f k 0 * _ + dfK f k 1 * powS f 1 1 = _
    rw [df_zero h.z, powS_one, f1, Rat.zero_mul, Rat.mul_one]
    grind
theorem Dpow {D e : Nat} (d : D < 2 ^ 90) {n : Nat} (h : e ≤ n) (n1 : 1 ≤ n) : D ^ e < 2 ^ (90 * n) := by
  rcases Nat.eq_zero_or_pos e with rfl | e0
  · exact Nat.lt_of_lt_of_le (show 1 < 2 ^ 1 by decide) (Nat.pow_le_pow_right (by decide) (by omega))
  · rw [Nat.pow_mul]
    exact Nat.lt_of_lt_of_le (Nat.pow_lt_pow_left d (by omega)) (Nat.pow_le_pow_right (Nat.pow_pos (by decide)) h)
/-- all over D ^ (n - 1) -/
theorem Gm.one {D m n : Nat} {F : Ser} (h : Gm D m F n) (d0 : 0 < D) (d : D < 2 ^ 90) (n1 : 1 ≤ n) (n15 : n ≤ 7) {k : Nat} (hk : k < n) : Dq (D ^ (n - 1)) (15 * m + 700) (F (k + 1)) := by
  refine ((h.g k hk).dv (Nat.pow_dvd_pow D (show k ≤ n - 1 by omega)) (Nat.pow_pos d0) (Dpow d (show n - 1 ≤ n by omega) n1)).mono ?_
  have : m * k ≤ m * 15 := Nat.mul_le_mul_left m (by omega)
  omega
theorem Gm.all {D m n : Nat} {F : Ser} (h : Gm D m F n) (d0 : 0 < D) (d : D < 2 ^ 90) (n1 : 1 ≤ n) (n15 : n ≤ 7) : AllD (D ^ (n - 1)) (15 * m + 700) (toT n F) := fun q hq => by
  obtain ⟨i, hi⟩ := List.getElem?_of_mem hq
  rcases Nat.lt_or_ge i n with c | c
  · rw [toT_get c] at hi
    rw [← Option.some.inj hi]
    exact h.one d0 d n1 n15 c
  · rw [List.getElem?_eq_none (by rw [toT_len]; exact c)] at hi
    cases hi
theorem powL_S (rs : List Rat) (k : Nat) : powL (0 :: rs) k = toL (rs.length + 1) (powS (serS rs) (k + 1)) := by
  have e : (0 :: rs) = toL (rs.length + 1) (serS rs) := (toL_ser (0 :: rs)).symm
  rw [e, powL_toL]
theorem Gm.pows {D m : Nat} {qs : List Rat} (h : Gm D m (serS qs) qs.length) (d0 : 0 < D) (d : D < 2 ^ 90) (n1 : 1 ≤ qs.length) (n15 : qs.length ≤ 7) : PowD (D ^ (qs.length - 1)) (15 * m + 900) qs := fun j hj q hq => by
  rw [powL_S] at hq
  obtain ⟨i, hi⟩ := List.getElem?_of_mem hq
  rcases Nat.lt_or_ge i (qs.length + 1) with c | c
  · rw [toL_get c] at hi
    rw [← Option.some.inj hi]
    rcases Nat.lt_or_ge i (j + 1) with e | e
    · rw [powS_low rfl (j + 1) i e]
      exact Dq.zero
    · have a := h.pow (by omega) j (i - (j + 1)) (by omega)
      rw [show j + 1 + (i - (j + 1)) = i by omega] at a
      refine (a.dv (Nat.pow_dvd_pow D (show i - (j + 1) ≤ qs.length - 1 by omega)) (Nat.pow_pos d0) (Dpow d (show qs.length - 1 ≤ qs.length by omega) n1)).mono ?_
      have : m * (i - (j + 1)) ≤ m * 15 := Nat.mul_le_mul_left m (by omega)
      omega
  · rw [List.getElem?_eq_none (by rw [toL_len]; exact c)] at hi
    cases hi
theorem sm_pow {D n : Nat} (d0 : 0 < D) (d : D < 2 ^ 90) (n15 : n ≤ 15) : SmL (D ^ (n - 1)) := ⟨Nat.pow_pos d0, Nat.lt_of_lt_of_le (Dpow d (show n - 1 ≤ n + 1 by omega) (by omega)) (Nat.pow_le_pow_right (by decide) (by omega))⟩
/-! ### binomials -/
def fct : Nat → Nat
  | 0 => 1
  | k + 1 => fct k * (k + 1)
theorem fct_pos : ∀ k, 0 < fct k
  | 0 => by decide
  | k + 1 => Nat.mul_pos (fct_pos k) (Nat.succ_pos k)
theorem fct_dvd {k n : Nat} (h : k ≤ n) : fct k ∣ fct n := by
  induction h with
  | refl => exact Nat.dvd_refl _
  | step _ ih => exact Nat.dvd_trans ih (Nat.dvd_mul_right _ _)
theorem fct_le {n : Nat} (h : n ≤ 12) : fct n < 2 ^ 30 := Nat.lt_of_le_of_lt (Nat.le_of_dvd (fct_pos 12) (fct_dvd h)) (by decide)
structure Tb (t : Rat) : Prop where
  u : t.num.natAbs < 2 ^ 400
  l : t.den < 2 ^ 400
theorem Tb.ok {t : Rat} (h : Tb t) : Ok t := ⟨Nat.lt_of_lt_of_le h.u (Nat.pow_le_pow_right (by decide) (by decide)), Nat.lt_of_lt_of_le h.l (Nat.pow_le_pow_right (by decide) (by decide))⟩
theorem tb_d {t : Rat} (h : Tb t) {k : Nat} (hk : k ≤ 12) : Dq t.den 405 (t - (k : Rat)) := by
  refine (Dq.self t h.u).sub (B := 400) (C := 404) ?_ (by omega) (by omega)
  refine Dq.int (k : Int) ?_
  rw [Int.natAbs_mul, Int.natAbs_natCast, Int.natAbs_natCast]
  have h1 : k * t.den ≤ 12 * t.den := Nat.mul_le_mul_right _ hk
  have h2 := h.l
  have h3 : (2 : Nat) ^ 404 = 16 * 2 ^ 400 := by rw [show (404 : Nat) = 4 + 400 by rfl, Nat.pow_add]
  omega
theorem tb_q {t : Rat} (h : Tb t) {k : Nat} (hk : k < 12) : Dq (t.den * (k + 1)) 405 ((t - (k : Rat)) / ((k + 1 : Nat) : Rat)) := by
  obtain ⟨z, e, l⟩ := tb_d h (show k ≤ 12 by omega)
  refine ⟨z, ?_, l⟩
  have n0 := nat_ne (show k + 1 ≠ 0 by omega)
  rw [← e, Rat.natCast_mul]
  have : (t - (k : Rat)) / ((k + 1 : Nat) : Rat) * ((k + 1 : Nat) : Rat) = t - (k : Rat) := Rat.div_mul_cancel n0
  grind
theorem bn_d {t : Rat} (h : Tb t) : ∀ k, k ≤ 12 → Dq (t.den ^ k * fct k) (405 * k + 1) (bnR t k)
  | 0, _ => Dq.one (show 1 < 2 ^ 1 by decide)
  | k + 1, hk => by
    have a := (bn_d h k (by omega)).mul (tb_q h (show k < 12 by omega))
    have e : t.den ^ k * fct k * (t.den * (k + 1)) = t.den ^ (k + 1) * fct (k + 1) := by
      show _ = t.den ^ (k + 1) * (fct k * (k + 1))
      rw [Nat.pow_succ, Nat.mul_mul_mul_comm]
    rw [e] at a
    exact a.mono (by omega)
theorem tb_pow {t : Rat} (h : Tb t) {k : Nat} (hk : k ≤ 11) : t.den ^ k * fct k < 2 ^ 4430 := by
  have h1 : t.den ^ k ≤ (2 ^ 400) ^ k := Nat.pow_le_pow_left (Nat.le_of_lt h.l) k
  have h2 : (2 ^ 400) ^ k ≤ 2 ^ 4400 := by
    rw [← Nat.pow_mul]
    exact Nat.pow_le_pow_right (by decide) (by omega)
  have h3 := fct_le (show k ≤ 12 by omega)
  rw [show (4430 : Nat) = 4400 + 30 by rfl, Nat.pow_add]
  exact Nat.mul_lt_mul_of_le_of_lt (Nat.le_trans h1 h2) h3 (Nat.pow_pos (by decide))
theorem tb_sm {t : Rat} (h : Tb t) {k : Nat} (hk : k ≤ 11) : SmL (t.den ^ k * fct k) := ⟨Nat.mul_pos (Nat.pow_pos (Nat.pos_of_ne_zero t.den_nz)) (fct_pos k), Nat.lt_of_lt_of_le (tb_pow h hk) (Nat.pow_le_pow_right (by decide) (by decide))⟩
theorem bn_up {t : Rat} (h : Tb t) {k n : Nat} (hk : k ≤ n) (hn : n ≤ 11) : Dq (t.den ^ n * fct n) 10000 (bnR t k) := by
  refine ((bn_d h k (by omega)).dv (Nat.mul_dvd_mul (Nat.pow_dvd_pow _ hk) (fct_dvd hk)) (tb_sm h hn).1 (tb_pow h hn)).mono ?_
  omega
theorem sm_den {t : Rat} (h : Tb t) {k : Nat} (hk : k < 12) : SmL (t.den * (k + 1)) := by
  refine ⟨Nat.mul_pos (Nat.pos_of_ne_zero t.den_nz) (Nat.succ_pos k), ?_⟩
  have : t.den * (k + 1) < 2 ^ 400 * 2 ^ 4 := Nat.mul_lt_mul'' h.l (by omega)
  rw [← Nat.pow_add] at this
  exact Nat.lt_of_lt_of_le this (Nat.pow_le_pow_right (by decide) (by decide))
theorem sm_den1 {t : Rat} (h : Tb t) : SmL t.den := ⟨Nat.pos_of_ne_zero t.den_nz, Nat.lt_of_lt_of_le h.l (Nat.pow_le_pow_right (by decide) (by decide))⟩
theorem bn_ok {t : Rat} (h : Tb t) {n : Nat} (hn : n ≤ 11) : BnOk t (n + 1) := ⟨fun k hk => (bn_up h (show k ≤ n by omega) hn).ok (tb_sm h hn) (by decide), fun k hk => (tb_d h (show k ≤ 12 by omega)).ok (sm_den1 h) (by decide), fun k hk => (tb_q h (show k < 12 by omega)).ok (sm_den h (show k < 12 by omega)) (by decide)⟩
/-- a slow step of small sizes -/
def Slw (n : Nat) (F : Ser) : Prop := ∃ D m : Nat, 0 < D ∧ D < 2 ^ 90 ∧ m ≤ 1000 ∧ Gm D m F n
theorem pw_ok {qs : List Rat} {t : Rat} (h : Slw qs.length (serS qs)) (h1 : serS qs 1 = 1) (l1 : 1 ≤ qs.length) (l11 : qs.length ≤ 7) (ht : Tb t) : PwOk qs t := by
  obtain ⟨D, m, d0, d, m4, g⟩ := h
  refine ⟨D ^ (qs.length - 1), 15 * m + 900, D ^ (qs.length - 1), 15 * 1200 + 700, t.den ^ qs.length * fct qs.length, 10000, sm_pow d0 d (by omega), by omega, g.pows d0 d l1 (by omega), sm_pow d0 d (by omega), by omega, fun k hk => ?_, ht.ok, bn_ok ht (by omega), tb_sm ht (by omega), by omega, fun q hq => ?_⟩
  · exact (((g.df h1 (by omega) k).mono (show m + 16 * k ≤ 1200 by omega)).all d0 d l1 (by omega))
  · unfold bnL at hq
    obtain ⟨k, hk, rfl⟩ := List.mem_map.mp hq
    rw [List.mem_range] at hk
    exact bn_up ht (by omega) (by omega)
end Kx
end
section
set_option maxHeartbeats 4000000
namespace Kx
open PySem PySem.Spec PyProof.Rows L2 RZ
/-! ### the law's lists of numbers -/
abbrev nPl : List Str := ["_law_u", "_law_w", "_law_p", "_law_q"]
abbrev nSl : List Str := ["_law_u", "_law_p", "_law_q"]
def spMulsL (K : PySem.W.Frag) : Sp := fun vs H Q _ => ∃ (x y : V) (qs : List Rat) (t : Rat), vs = [x, y] ∧ Ls K H x qs ∧ Nq K H y t ∧ qs.length ≤ 100 ∧ AllO qs ∧ Ok t ∧ GivesL K H Q (qs.map (· * t))
def spZeros (K : PySem.W.Frag) : Sp := fun vs H Q _ => ∃ n : Nat, vs = [.int (n : Nat)] ∧ n ≤ 100 ∧ GivesL K H Q (List.replicate n 0)
def xL (n : Nat) : List Rat := 0 :: stL n
def spX (K : PySem.W.Frag) : Sp := fun vs H Q _ => ∃ n : Nat, vs = [.int (n : Nat)] ∧ 1 ≤ n ∧ n ≤ 100 ∧ GivesL K H Q (xL n)
section
variable {P : Program} {w : World} {K : PySem.W.Frag} {mg : Str → Option Value} {base : Heap} {f o0 : Addr} {fd : FuncData}
theorem scLPl : FnScope nPl ["_law_u", "_law_w"] (defScope L_plus) := ⟨rfl, rfl, rfl, by decide +kernel, rfl, by decide +kernel, by decide +kernel⟩
theorem ok_lplus (G : Fun K "_law_plus" "_law_plus" L_plus f fd) (mz : mg "zip" = none) (UA : Use P w K mg base CX0 2 "_law_add" ["_law_p", "_law_q"] (spTwoQ K (· + ·)) []) : FnOk P w K mg base CX0 3 f fd ["_law_u", "_law_w"] (spTwoL K (· + ·)) := by
  refine G.ok scLPl (fun vs H Q E h => ?_) (fun cdv A outer s H vs Q E hr h => ?_)
  · obtain ⟨x, y, qs, rs, rfl, _⟩ := h
    rfl
  obtain ⟨x, y, qs, rs, rfl, ⟨xa, xs, rfl, hx, nx⟩, ⟨ya, ys, rfl, hy, ny⟩, le, l1, bq, br, q⟩ := h
  refine ⟨_, pss_one (ps_ret (pe_lc (own := [("_law_p", 2), ("_law_q", 3)]) (g := gTup K 2 (gCons (gName 2) (gCons (gName 3) gNil))) (tt := tYes) rfl scLPl.nd (pi_zip rfl mz (pa_cons (pv 0) (pa_cons (pv 1) pa_nil))) (blkOk_by (N := nPl) (sc := defScope L_plus) (by decide +kernel))
      (fun _ _ _ _ _ => pg_tup rfl (pgs_cons (pg_name (i := 2) scLPl.nd rfl (Or.inl rfl)) (pgs_cons (pg_name (i := 3) scLPl.nd rfl (Or.inl rfl)) pgs_nil))) (fun _ _ _ _ _ => pts_nil)
      (fun _ _ _ _ _ => pe_use UA hr rfl pass0 (pa_cons (pv 2) (pa_cons (pv 3) pa_nil))))), ?_⟩
  refine ⟨_, rfl, _, rfl, xa, ya, xs, ys, rfl, SqL.of hx, SqL.of hy, fun D nD => ?_⟩
  have lx : xs.length = qs.length := nx.1
  have ly : ys.length = rs.length := ny.1
  refine lc_nums (K := K) (walk_zip (K := K) (a := xa) (b := ya) (xs := xs) (ys := ys) (n := xs.length) (by omega)) (qs.zipWith (· + ·) rs) (by rw [List.length_zipWith]; omega) nD (by omega) (fun H' s => ⟨SqL.of (s _ _ hx), SqL.of (s _ _ hy)⟩) ?_ (fun H' zs s h n => q D H' zs s nD h n)
  rintro i r x H2 H3 k hq s2 ⟨T, y, z, rfl, hT, rfl, hy2, hz2⟩ hk
  obtain ⟨a, b, ea, eb, rfl⟩ := zip_get hq
  have sT := new_same hT (.tup [y, z])
  exact ⟨T, _, rfl, SqT.of upd_same, rfl, _, _, rfl, _, _, rfl, rfl, rfl, _, rfl, _, rfl, _, _, a, b, rfl, (nx.2 i y a hy2 ea).same (s2.trans sT), (ny.2 i z b hz2 eb).same (s2.trans sT), bq a (List.mem_of_getElem? ea), br b (List.mem_of_getElem? eb), fun t H4 s4 n4 h4 => hk _ _ (sT.trans s4) (.at h4)⟩
theorem scLLe : FnScope nPl ["_law_u", "_law_w"] (defScope L_less) := ⟨rfl, rfl, rfl, by decide +kernel, rfl, by decide +kernel, by decide +kernel⟩
theorem ok_lless (G : Fun K "_law_less" "_law_less" L_less f fd) (mz : mg "zip" = none) (UA : Use P w K mg base CX0 2 "_law_sub" ["_law_p", "_law_q"] (spTwoQ K (· - ·)) []) : FnOk P w K mg base CX0 3 f fd ["_law_u", "_law_w"] (spTwoL K (· - ·)) := by
  refine G.ok scLLe (fun vs H Q E h => ?_) (fun cdv A outer s H vs Q E hr h => ?_)
  · obtain ⟨x, y, qs, rs, rfl, _⟩ := h
    rfl
  obtain ⟨x, y, qs, rs, rfl, ⟨xa, xs, rfl, hx, nx⟩, ⟨ya, ys, rfl, hy, ny⟩, le, l1, bq, br, q⟩ := h
  refine ⟨_, pss_one (ps_ret (pe_lc (own := [("_law_p", 2), ("_law_q", 3)]) (g := gTup K 2 (gCons (gName 2) (gCons (gName 3) gNil))) (tt := tYes) rfl scLLe.nd (pi_zip rfl mz (pa_cons (pv 0) (pa_cons (pv 1) pa_nil))) (blkOk_by (N := nPl) (sc := defScope L_less) (by decide +kernel))
      (fun _ _ _ _ _ => pg_tup rfl (pgs_cons (pg_name (i := 2) scLLe.nd rfl (Or.inl rfl)) (pgs_cons (pg_name (i := 3) scLLe.nd rfl (Or.inl rfl)) pgs_nil))) (fun _ _ _ _ _ => pts_nil)
      (fun _ _ _ _ _ => pe_use UA hr rfl pass0 (pa_cons (pv 2) (pa_cons (pv 3) pa_nil))))), ?_⟩
  refine ⟨_, rfl, _, rfl, xa, ya, xs, ys, rfl, SqL.of hx, SqL.of hy, fun D nD => ?_⟩
  have lx : xs.length = qs.length := nx.1
  have ly : ys.length = rs.length := ny.1
  refine lc_nums (K := K) (walk_zip (K := K) (a := xa) (b := ya) (xs := xs) (ys := ys) (n := xs.length) (by omega)) (qs.zipWith (· - ·) rs) (by rw [List.length_zipWith]; omega) nD (by omega) (fun H' s => ⟨SqL.of (s _ _ hx), SqL.of (s _ _ hy)⟩) ?_ (fun H' zs s h n => q D H' zs s nD h n)
  rintro i r x H2 H3 k hq s2 ⟨T, y, z, rfl, hT, rfl, hy2, hz2⟩ hk
  obtain ⟨a, b, ea, eb, rfl⟩ := zip_get hq
  have sT := new_same hT (.tup [y, z])
  exact ⟨T, _, rfl, SqT.of upd_same, rfl, _, _, rfl, _, _, rfl, rfl, rfl, _, rfl, _, rfl, _, _, a, b, rfl, (nx.2 i y a hy2 ea).same (s2.trans sT), (ny.2 i z b hz2 eb).same (s2.trans sT), bq a (List.mem_of_getElem? ea), br b (List.mem_of_getElem? eb), fun t H4 s4 n4 h4 => hk _ _ (sT.trans s4) (.at h4)⟩
theorem scLSc : FnScope nSl ["_law_u", "_law_p"] (defScope L_scaled) := ⟨rfl, rfl, rfl, by decide +kernel, rfl, by decide +kernel, by decide +kernel⟩
theorem ok_lscaled (G : Fun K "_law_scaled" "_law_scaled" L_scaled f fd) (UM : Use P w K mg base CX0 2 "_law_mul" ["_law_p", "_law_q"] (spTwoQ K (· * ·)) []) : FnOk P w K mg base CX0 3 f fd ["_law_u", "_law_p"] (spMulsL K) := by
  refine G.ok scLSc (fun vs H Q E h => ?_) (fun cdv A outer s H vs Q E hr h => ?_)
  · obtain ⟨x, y, qs, t, rfl, _⟩ := h
    rfl
  obtain ⟨x, y, qs, t, rfl, ⟨xa, xs, rfl, hx, nx⟩, ht, l1, bq, bt, q⟩ := h
  refine ⟨_, pss_one (ps_ret (pe_lc (own := [("_law_q", 2)]) (g := gName 2) (tt := tYes) rfl scLSc.nd (pi_list (pv 0)) (blkOk_by (N := nSl) (sc := defScope L_scaled) (by decide +kernel))
      (fun _ _ _ _ _ => pg_name (i := 2) scLSc.nd rfl (Or.inl rfl)) (fun _ _ _ _ _ => pts_nil) (fun _ _ _ _ _ => pe_use UM hr rfl pass0 (pa_cons (pv 2) (pa_cons (pv 1) pa_nil))))), ?_⟩
  refine ⟨_, rfl, xa, rfl, ⟨_, SqL.of hx⟩, fun D nD => ?_⟩
  have lx : xs.length = qs.length := nx.1
  refine lc_nums (K := K) (walk_list (K := K) (a := xa) (xs := xs)) (qs.map (· * t)) (by rw [List.length_map]; omega) nD (by omega) (fun H' s => SqL.of (s _ _ hx)) ?_ (fun H' zs s h n => q D H' zs s nD h n)
  rintro i r x H2 H3 k hq s2 ⟨rfl, hx2⟩ hk
  rw [List.getElem?_map] at hq
  obtain ⟨a, ea, rfl⟩ := Option.map_eq_some_iff.mp hq
  exact ⟨rfl, _, rfl, _, rfl, _, _, a, t, rfl, (nx.2 i x a hx2 ea).same s2, ht.same s2, bq a (List.mem_of_getElem? ea), bt, fun t' H4 s4 n4 h4 => hk _ _ s4 (.at h4)⟩
theorem scLZe : FnScope ["_law_many_y"] ["_law_many_y"] (defScope L_zeros) := ⟨rfl, rfl, rfl, by decide +kernel, rfl, by decide +kernel, by decide +kernel⟩
theorem ok_lzeros (G : Fun K "_law_zeros" "_law_zeros" L_zeros f fd) : FnOk P w K mg base CX0 1 f fd ["_law_many_y"] (spZeros K) := by
  refine G.ok scLZe (fun vs H Q E h => ?_) (fun cdv A outer s H vs Q E hr h => ?_)
  · obtain ⟨n, rfl, _⟩ := h
    rfl
  obtain ⟨n, rfl, l1, q⟩ := h
  refine ⟨_, pss_one (ps_ret (pe_op op_rep (pe_lst (pa_cons (pe_tup (pa_cons pe_int (pa_cons pe_int pa_nil))) pa_nil)) (pv 0))), ?_⟩
  refine ⟨(by show 2 ≤ sizeLine; decide), fun t nt => ⟨(by show 1 ≤ sizeLine; decide), fun c nc => ?_⟩⟩
  have s1 := new_same nt (HO.tup [.int 0, .int 1])
  have s2 := new_same nc (HO.lst [V.ref t])
  refine ⟨_, rfl, c, (n : Nat), [.ref t], rfl, rfl, upd_same, by omega, by omega, (by show 1 * _ ≤ sizeLine; exact Nat.le_of_lt (small1000 (by omega))), fun d nd => ?_⟩
  have rep : (List.replicate (((n : Nat) : Int)).toNat [V.ref t]).flatten = List.replicate n (.ref t) := by
    rw [List.flatten_replicate_singleton, Int.toNat_natCast]
  rw [rep]
  have s3 := new_same nd (HO.lst (List.replicate n (V.ref t)))
  refine q d _ _ (s1.trans (s2.trans s3)) (s1.free (s2.free nd)) upd_same (reps (.at (K := K) ((s2.trans s3) _ _ (show _ = some (rT 0) from upd_same))) n)
theorem scLX : FnScope ["_law_deg"] ["_law_deg"] (defScope L_x) := ⟨rfl, rfl, rfl, by decide +kernel, rfl, by decide +kernel, by decide +kernel⟩
theorem ok_lx (G : Fun K "_law_x" "_law_x" L_x f fd) : FnOk P w K mg base CX0 1 f fd ["_law_deg"] (spX K) := by
  refine G.ok scLX (fun vs H Q E h => ?_) (fun cdv A outer s H vs Q E hr h => ?_)
  · obtain ⟨n, rfl, _⟩ := h
    rfl
  obtain ⟨n, rfl, l0, l1, q⟩ := h
  refine ⟨_, pss_one (ps_ret (pe_op op_cat (pe_lst (pa_cons (pe_tup (pa_cons pe_int (pa_cons pe_int pa_nil))) (pa_cons (pe_tup (pa_cons pe_int (pa_cons pe_int pa_nil))) pa_nil))) (pe_op op_rep (pe_lst (pa_cons (pe_tup (pa_cons pe_int (pa_cons pe_int pa_nil))) pa_nil)) (pe_op op_sub (pv 0) pe_int)))), ?_⟩
  refine ⟨(by show 2 ≤ sizeLine; decide), fun t0 nt0 => ⟨(by show 2 ≤ sizeLine; decide), fun t1 nt1 => ⟨(by show 2 ≤ sizeLine; decide), fun a na => ⟨(by show 2 ≤ sizeLine; decide), fun t nt => ⟨(by show 1 ≤ sizeLine; decide), fun c nc => ?_⟩⟩⟩⟩⟩
  have s0 := new_same nt0 (HO.tup [.int 0, .int 1])
  have s1 := new_same nt1 (HO.tup [.int 1, .int 1])
  have s2 := new_same na (HO.lst [V.ref t0, V.ref t1])
  have s3 := new_same nt (HO.tup [.int 0, .int 1])
  have s4 := new_same nc (HO.lst [V.ref t])
  refine ⟨_, rfl, (n : Nat), 1, rfl, rfl, c, ((n : Nat) : Int) - 1, [.ref t], rfl, rfl, upd_same, by omega, by omega, (by show 1 * _ ≤ sizeLine; exact Nat.le_of_lt (small1000 (by omega))), fun d nd => ?_⟩
  have rep : (List.replicate (((n : Nat) : Int) - 1).toNat [V.ref t]).flatten = List.replicate (n - 1) (.ref t) := by
    rw [List.flatten_replicate_singleton]
    congr 1
    omega
  rw [rep]
  have s5 := new_same nd (HO.lst (List.replicate (n - 1) (V.ref t)))
  refine ⟨a, d, _, _, rfl, rfl, s5 _ _ (s4 _ _ (s3 _ _ upd_same)), upd_same, Nat.le_of_lt (small1000 (by rw [List.length_replicate]; show 2 + _ ≤ _; omega)), fun k nk => ?_⟩
  have s6 := new_same nk (HO.lst ([V.ref t0, V.ref t1] ++ List.replicate (n - 1) (V.ref t)))
  have z0 : Nq K _ (.ref t0) 0 := .at (K := K) ((s1.trans (s2.trans (s3.trans (s4.trans (s5.trans s6))))) _ _ (show _ = some (rT 0) from upd_same))
  have z1 : Nq K _ (.ref t1) 1 := .at (K := K) ((s2.trans (s3.trans (s4.trans (s5.trans s6)))) _ _ (show _ = some (rT 1) from upd_same))
  have z : Nq K _ (.ref t) 0 := .at (K := K) ((s4.trans (s5.trans s6)) _ _ (show _ = some (rT 0) from upd_same))
  have sA := s0.trans (s1.trans (s2.trans (s3.trans (s4.trans (s5.trans s6)))))
  exact q k _ _ sA ((s0.trans (s1.trans (s2.trans (s3.trans (s4.trans s5))))).free nk) upd_same (Nl.cons z0 (Nl.cons z1 (reps z _)))
end
end Kx
end
section
set_option maxHeartbeats 4000000
namespace Kx
open PySem PySem.Spec PyProof.Rows L2 RZ
/-! ### the law's common lower part -/
abbrev nWh : List Str := ["_law_u", "_law_den", "_law_p", "_law_high", "_law_rest"]
theorem lcm_i (a b : Nat) : ((a : Nat) : Int) / ((Nat.gcd a b : Nat) : Int) * ((b : Nat) : Int) = ((Nat.lcm a b : Nat) : Int) := by
  have : Nat.lcm a b = a / Nat.gcd a b * b := by
    unfold Nat.lcm
    exact Nat.mul_div_right_comm (Nat.gcd_dvd_left a b) b
  rw [this, Int.natCast_mul, Int.natCast_ediv]
theorem small_log {a : Nat} {n : Nat} (h : a < 2 ^ n) (n0 : 0 < n) (n9 : n ≤ 9000) : ((a : Nat) : Int).natAbs.log2 < 9000 := Nat.lt_of_lt_of_le (log_bd (by rw [Int.natAbs_natCast]; exact h) n0) n9
section
variable {P : Program} {w : World} {K : PySem.W.Frag} {mg : Str → Option Value} {base : Heap} {f o0 : Addr} {fd : FuncData}
theorem scWhl : FnScope nWh ["_law_u"] (defScope L_whole) := ⟨rfl, rfl, rfl, by decide +kernel, rfl, by decide +kernel, by decide +kernel⟩
theorem ok_lwhole (F : Fun K "_law_whole" "_law_whole" L_whole f fd) (mi : mg "int" = none) : FnOk P w K mg base CX0 1 f fd ["_law_u"] (spOol K) := by
  refine F.ok scWhl (fun vs H Q E h => ?_) (fun cdv A outer s H vs Q E hr h => ?_)
  · obtain ⟨x, qs, L, B, rfl, _⟩ := h
    rfl
  obtain ⟨x, qs, L, B, rfl, ⟨xa, xs, rfl, hx, nx⟩, l1, sL, lB, bz, q⟩ := h
  have bq : AllO qs := bz.ok sL lB
  refine ⟨_, pss_cons (ps_set (i := 1) scWhl.nd rfl (Or.inr rfl) pe_int)
    (pss_cons (ps_for PassesOwn.never rfl (pi_list (pv 0)) (pg_name (i := 2) scWhl.nd rfl (Or.inl rfl))
      (pss_cons (ps_par (i := 3) (j := 4) rfl scWhl.nd rfl rfl (by decide) rfl rfl (pa_cons (pv 1) (pa_cons (pe_ix ix_tup (pv 2) pe_int (fun _ _ => rfl)) pa_nil)) rfl)
      (C8.pss_cut (ps_while PassesOwn.never (pt_cmpR op_gt (pv 4) pe_int (nomark _)) (pss_one (ps_par (i := 3) (j := 4) rfl scWhl.nd rfl rfl (by decide) rfl rfl (pa_cons (pv 4) (pa_cons (pe_op op_mod (pe_callTy call_int1 rfl mi (by decide +kernel) (pa_cons (pv 3) pa_nil)) (pv 4)) pa_nil)) rfl)))
      (pss_one (ps_set (i := 1) scWhl.nd rfl (Or.inr rfl) (pe_op op_mulW (pe_op op_fdivA (pv 1) (pv 3)) (pe_ix ix_tup (pv 2) pe_int (fun _ _ => rfl))))))))
    (pss_one (ps_ret (pe_tup (pa_cons (pe_lc (own := [("_law_p", 2)]) (g := gName 2) (tt := tYes) rfl scWhl.nd (pi_list (pv 0)) (blkOk_by (N := nWh) (sc := defScope L_whole) (by decide +kernel))
      (fun _ _ _ _ _ => pg_name (i := 2) scWhl.nd rfl (Or.inl rfl)) (fun _ _ _ _ _ => pts_nil)
      (fun _ _ _ _ _ => pe_op op_mulW (pe_ix (ixt_at K rfl) (pv 2) pe_int (fun _ _ => rfl)) (pe_op op_fdivA (pv 1) (pe_ix (ixt_at K rfl) (pv 2) pe_int (fun _ _ => rfl))))) (pa_cons (pv 1) pa_nil)))))), ?_⟩
  have lx : xs.length = qs.length := nx.1
  have lcb : ∀ i, lcmL 1 (qs.take i) < 2 ^ 4450 := fun i => Nat.lt_of_le_of_lt (Nat.le_of_dvd sL.1 (AllD.lcm sL.1 (qs.take i) 1 (fun r hr => bz r (List.mem_of_mem_take hr)) (Nat.one_dvd _))) sL.2
  refine ⟨_, rfl, xa, rfl, ⟨_, SqL.of hx⟩, for_list (K := K) (a := xa) (xs := xs) (fun i σ H' => H' = H ∧ ∃ v2 v3 v4, σ = [some (.ref xa), some (.int (lcmL 1 (qs.take i) : Nat)), v2, v3, v4]) ⟨rfl, none, none, none, rfl⟩ (fun i σ H' _ h => by rw [h.1]; exact SqL.of hx) ?_ ?_⟩
  · rintro i x σ H' hi ⟨rfl, v2, v3, v4, rfl⟩
    obtain ⟨a, ea, na⟩ := nx.get hi
    obtain ⟨va, rfl, sa, _⟩ := na.sq
    have oa := bq a (List.mem_of_getElem? ea)
    have Lb := lcb i
    have Lp := lcmL_pos (qs.take i) 1 (by decide)
    have nxt : lcmL 1 (qs.take (i + 1)) = Nat.lcm (lcmL 1 (qs.take i)) a.den := by
      rw [List.take_add_one, ea, lcmL_app]
      rfl
    rw [nxt]
    generalize lcmL 1 (qs.take i) = M at *
    refine ⟨_, rfl, _, rfl, va, _, 1, _, rfl, rfl, sa, rfl, _, _, rfl, ?_⟩
    refine ⟨fun σ H2 => H2 = H' ∧ σ = [some (.ref xa), some (.int (M : Nat)), some (.ref va), some (.int (Nat.gcd M a.den : Nat)), some (.int 0)], ?_, ?_⟩
    · refine ⟨fun m σ H2 => H2 = H' ∧ ∃ x y : Nat, σ = [some (.ref xa), some (.int (M : Nat)), some (.ref va), some (.int x), some (.int y)] ∧ Nat.gcd x y = Nat.gcd M a.den ∧ y = m, ⟨a.den, rfl, M, a.den, rfl, rfl, rfl⟩, ?_⟩
      rintro m σ H2 ⟨rfl, x, y, rfl, hg, rfl⟩
      refine ⟨_, rfl, y, 0, rfl, rfl, _, rfl, ite2 (fun c => ?_) (fun c => ?_)⟩
      · have hb : (0 : Int) < (y : Nat) := of_decide_eq_true c
        refine ⟨fun σ' H3 => H3 = H2 ∧ σ' = [some (.ref xa), some (.int (M : Nat)), some (.ref va), some (.int y), some (.int ((x % y : Nat) : Int))], ?_, ?_⟩
        · rintro σ' H3 ⟨rfl, rfl⟩
          exact ⟨x % y, Nat.mod_lt _ (by omega), rfl, y, x % y, rfl, by rw [← hg, Nat.gcd_comm x y, Nat.gcd_rec y x, Nat.gcd_comm], rfl⟩
        · exact ⟨_, rfl, _, rfl, .inl ⟨_, rfl, _, rfl, x, y, rfl, rfl, hb, _, _, rfl, rfl, rfl⟩⟩
      · have hb : ¬ (0 : Int) < (y : Nat) := of_decide_eq_false (Bool.eq_false_iff.mpr c)
        obtain rfl : y = 0 := by omega
        rw [Nat.gcd_zero_right] at hg
        subst hg
        exact ⟨rfl, rfl⟩
    rintro σ H2 ⟨rfl, rfl⟩
    have g0 : 0 < Nat.gcd M a.den := Nat.gcd_pos_of_pos_left _ Lp
    refine ⟨_, rfl, _, rfl, (M : Nat), (Nat.gcd M a.den : Nat), rfl, rfl, ⟨by omega, small_log (n := 4450) (Nat.lt_of_le_of_lt (Nat.le_of_dvd Lp (Nat.gcd_dvd_left _ _)) Lb) (by decide) (by decide)⟩, _, rfl, _, _, 1, _, rfl, rfl, sa, rfl, _, _, rfl, rfl, ?_, rfl, some (.ref va), some (.int (Nat.gcd M a.den : Nat)), some (.int 0), ?_⟩
    · rw [Int.fdiv_eq_ediv_of_nonneg _ (by omega)]
      refine wide_mul (a := 4450) ?_ oa.dn (by decide) (by decide) (by decide)
      rw [← Int.natCast_ediv, Int.natAbs_natCast]
      exact Nat.lt_of_le_of_lt (Nat.div_le_self _ _) Lb
    · rw [Int.fdiv_eq_ediv_of_nonneg _ (by omega)]
      show [some (V.ref xa), some (V.int (((M : Nat) : Int) / ((Nat.gcd M a.den : Nat) : Int) * ((a.den : Nat) : Int))), some (V.ref va), some (V.int (Nat.gcd M a.den : Nat)), some (V.int 0)] = _
      rw [lcm_i]
  · rintro σ H' ⟨rfl, v2, v3, v4, rfl⟩
    rw [lx, List.take_length]
    refine ⟨_, rfl, xa, rfl, ⟨_, SqL.of hx⟩, fun D nD => ?_⟩
    have e0 := lcmL_pos qs 1 (by decide)
    have dv := (lcmL_dvd qs 1).2
    refine lc_acc (walk_list (K := K) (a := xa) (xs := xs)) (fun i _ y => ∀ a, qs[i]? = some a → y = .int (a.num * ((lcmL 1 qs : Nat) / (a.den : Nat)))) (fun i H H' y l h _ _ => h) nD (by omega) (fun H2 s => SqL.of (s _ _ hx)) ?_ ?_
    · rintro i x H2 H3 k hi s2 ⟨rfl, hx2⟩ hk
      obtain ⟨a, ea, na⟩ := nx.get hx2
      obtain ⟨va, rfl, sa, _⟩ := (na.same s2).sq
      have ba := bq a (List.mem_of_getElem? ea)
      have z : lcmL 1 qs < 2 ^ 4450 := Nat.lt_of_le_of_lt (Nat.le_of_dvd sL.1 (AllD.lcm sL.1 qs 1 bz (Nat.one_dvd _))) sL.2
      have cd : ((lcmL 1 qs : Nat) : Int) / ((a.den : Nat) : Int) = ((lcmL 1 qs / a.den : Nat) : Int) := rfl
      refine ⟨rfl, _, rfl, va, _, 0, _, rfl, rfl, sa, rfl, _, rfl, _, rfl, va, _, 1, _, rfl, rfl, sa, rfl, _, _, rfl, rfl, ⟨den_ne a, small_log ba.2 (by decide) (by decide)⟩, _, _, rfl, rfl, ?_, hk _ _ (Same.refl _) fun a' ha' => ?_⟩
      · rw [Int.fdiv_eq_ediv_of_nonneg _ (by omega), cd]
        refine wide_mul ba.1 (b := 4450) ?_ (by decide) (by decide) (by decide)
        rw [Int.natAbs_natCast]
        exact Nat.lt_of_le_of_lt (Nat.div_le_self _ _) z
      · rw [ea] at ha'
        rw [← Option.some.inj ha', Int.fdiv_eq_ediv_of_nonneg _ (by omega)]
    · intro H2 zs s2 hD hl hR
      have ez : zs = (upL (lcmL 1 qs) qs).map V.int := by
        apply List.ext_getElem?
        intro i
        unfold upL
        rw [List.map_map, List.getElem?_map]
        by_cases c : i < qs.length
        · rw [List.getElem?_eq_getElem c]
          have e := List.getElem?_eq_getElem (l := zs) (i := i) (by omega)
          rw [e]
          have := hR i _ e _ (List.getElem?_eq_getElem c)
          rw [this]
          rfl
        · rw [List.getElem?_eq_none (by omega), List.getElem?_eq_none (by omega)]
          rfl
      refine ⟨_, rfl, (by show 2 ≤ sizeLine; decide), fun p np => q D p _ (s2.trans (new_same np _)) nD (new_same np _ _ _ (by rw [hD, ez])) upd_same⟩
end
/-! ### products of lists of whole numbers -/
def cvp (xs ys : List Int) (k : Nat) : Nat → Int
  | 0 => 0
  | i + 1 => cvp xs ys k i + (if i ≤ k then xs.getD i 0 * ys.getD (k - i) 0 else 0)
def cvI (xs ys : List Int) : List Int := (List.range xs.length).map fun k => cvp xs ys k xs.length
theorem cvI_len (xs ys : List Int) : (cvI xs ys).length = xs.length := by unfold cvI; rw [List.length_map, List.length_range]
def spConv (K : PySem.W.Frag) : Sp := fun vs H Q _ => ∃ (a b : Addr) (xs ys : List Int) (A B : Nat), vs = [.ref a, .ref b] ∧ SqL K H a (xs.map V.int) ∧ SqL K H b (ys.map V.int) ∧ xs.length = ys.length ∧ ys.length ≤ 40 ∧ (∀ x ∈ xs, x.natAbs < 2 ^ A) ∧ (∀ y ∈ ys, y.natAbs < 2 ^ B) ∧ A + B ≤ 900000 ∧
  ∀ c H', Same H H' → H c = none → H' c = some (.lst ((cvI xs ys).map V.int)) → Q (.ref c) H'
abbrev nCv : List Str := ["_law_xs", "_law_ys", "_law_found", "_law_i", "_law_j"]
theorem set_range {n i : Nat} (f : Nat → Int) (v : Int) (h : i < n) : ((List.range n).map fun k => V.int (f k)).set i (.int v) = (List.range n).map fun k => V.int (if k = i then v else f k) := by
  apply List.ext_getElem?
  intro j
  rw [List.getElem?_set, List.getElem?_map, List.getElem?_map, List.length_map, List.length_range]
  by_cases c : i = j
  · subst c
    rw [if_pos rfl, if_pos h, List.getElem?_range h]
    show _ = some (V.int (if i = i then v else f i))
    rw [if_pos rfl]
  · rw [if_neg c]
    rcases Nat.lt_or_ge j n with d | d
    · rw [List.getElem?_range d]
      show some (V.int (f j)) = some (V.int (if j = i then v else f j))
      rw [if_neg (fun z => c z.symm)]
    · rw [List.getElem?_eq_none (by rw [List.length_range]; exact d)]
      rfl
theorem cvp_stay (xs ys : List Int) (k : Nat) : ∀ m, k + 1 ≤ m → cvp xs ys k m = cvp xs ys k (k + 1) := fun m h => by
  induction h with
  | refl => rfl
  | step h ih =>
    rename_i m
    show cvp xs ys k m + (if m ≤ k then _ else 0) = _
    have h' : k + 1 ≤ m := h
    rw [ih, if_neg (by omega), Int.add_zero]
theorem cvp_bd {xs ys : List Int} {A B : Nat} (hx : ∀ x ∈ xs, x.natAbs < 2 ^ A) (hy : ∀ y ∈ ys, y.natAbs < 2 ^ B) (k : Nat) : ∀ i, (cvp xs ys k i).natAbs ≤ i * 2 ^ (A + B)
  | 0 => by simp [cvp]
  | i + 1 => by
    have ih := cvp_bd hx hy k i
    have gx : ∀ j, (xs.getD j 0).natAbs < 2 ^ A := fun j => by
      rw [List.getD_eq_getElem?_getD]
      cases e : xs[j]? with
      | none => exact Nat.pow_pos (by decide)
      | some x => exact hx x (List.mem_of_getElem? e)
    have gy : ∀ j, (ys.getD j 0).natAbs < 2 ^ B := fun j => by
      rw [List.getD_eq_getElem?_getD]
      cases e : ys[j]? with
      | none => exact Nat.pow_pos (by decide)
      | some y => exact hy y (List.mem_of_getElem? e)
    show (cvp xs ys k i + (if i ≤ k then xs.getD i 0 * ys.getD (k - i) 0 else 0)).natAbs ≤ _
    have h1 := Int.natAbs_add_le (cvp xs ys k i) (if i ≤ k then xs.getD i 0 * ys.getD (k - i) 0 else 0)
    have h2 : (if i ≤ k then xs.getD i 0 * ys.getD (k - i) 0 else 0 : Int).natAbs ≤ 2 ^ (A + B) := by
      split
      · exact Nat.le_of_lt (lt_mul (gx i) (gy (k - i)))
      · exact Nat.zero_le _
    rw [Nat.succ_mul]
    omega
section
variable {P : Program} {w : World} {K : PySem.W.Frag} {mg : Str → Option Value} {base : Heap} {f o0 : Addr} {fd : FuncData}
theorem scCvl : FnScope nCv ["_law_xs", "_law_ys"] (defScope L_conv) := ⟨rfl, rfl, rfl, by decide +kernel, rfl, by decide +kernel, by decide +kernel⟩
theorem int_at {xs : List Int} {i : Nat} (h : i < xs.length) : (xs.map V.int)[i]? = some (.int (xs.getD i 0)) := by
  rw [List.getElem?_map, List.getElem?_eq_getElem h, List.getD_eq_getElem?_getD, List.getElem?_eq_getElem h]
  rfl
theorem getD_mem {xs : List Int} {i : Nat} (h : i < xs.length) : xs.getD i 0 ∈ xs := by
  rw [List.getD_eq_getElem?_getD, List.getElem?_eq_getElem h]
  exact List.getElem_mem h
theorem ok_lconv (F : Fun K "_law_conv" "_law_conv" L_conv f fd) (mn : mg "len" = none) (mr : mg "range" = none) : FnOk P w K mg base CX0 1 f fd ["_law_xs", "_law_ys"] (spConv K) := by
  refine F.ok scCvl (fun vs H Q E h => ?_) (fun cdv A outer s H vs Q E hr h => ?_)
  · obtain ⟨a, b, xs, ys, A, B, rfl, _⟩ := h
    rfl
  obtain ⟨a, b, xs, ys, A, B, rfl, ha, hb, le, l40, bx, by', ab, q⟩ := h
  refine ⟨_, pss_cons (ps_set (i := 2) scCvl.nd rfl (Or.inl rfl) (pe_op op_rep (pe_lst (pa_cons pe_int pa_nil)) (pe_callB call_len_seq rfl mn PySem.boot_len (pa_cons (pv 0) pa_nil))))
    (pss_cons (ps_for PassesOwn.never rfl (pi_range1 rfl mr (pa_cons (pe_callB call_len_seq rfl mn PySem.boot_len (pa_cons (pv 0) pa_nil)) pa_nil)) (pg_name (i := 3) scCvl.nd rfl (Or.inl rfl))
      (pss_one (ps_if (pt_cmpR op_ne (pe_ix ix_list (pv 0) (pv 3) (fun _ _ => rfl)) pe_int (nomark _))
        (pss_one (ps_for PassesOwn.never rfl (pi_range1 rfl mr (pa_cons (pe_op op_sub (pe_callB call_len_seq rfl mn PySem.boot_len (pa_cons (pv 0) pa_nil)) (pv 3)) pa_nil)) (pg_name (i := 4) scCvl.nd rfl (Or.inl rfl))
          (pss_one (ps_asg (pe_op op_add (pe_ix ix_list (pv 2) (pe_op op_add (pv 3) (pv 4)) (fun _ _ => rfl)) (pe_op op_mulW (pe_ix ix_list (pv 0) (pv 3) (fun _ _ => rfl)) (pe_ix ix_list (pv 1) (pv 4) (fun _ _ => rfl)))) (pg_sub (pv 2) (pe_op op_add (pv 3) (pv 4)) set_list))))) pss_nil)))
    (pss_one (ps_ret (pv 2)))), ?_⟩
  have lxs : (xs.map V.int).length = xs.length := List.length_map _
  refine ⟨(by show 1 ≤ sizeLine; decide), fun c nc => ?_⟩
  have s1 := new_same nc (HO.lst [V.int 0])
  refine ⟨_, rfl, a, _, rfl, .inl (s1.seq ha), c, (((xs.map V.int).length : Nat) : Int), [.int 0], rfl, rfl, upd_same, by omega, by omega, (by show 1 * _ ≤ sizeLine; exact Nat.le_of_lt (small1000 (by omega))), fun d nd => ?_⟩
  have rep : (List.replicate ((((xs.map V.int).length : Nat) : Int)).toNat [V.int 0]).flatten = (List.range xs.length).map fun k => V.int (cvp xs ys k 0) := by
    rw [List.flatten_replicate_singleton, Int.toNat_natCast, lxs]
    apply List.ext_getElem?
    intro j
    rw [List.getElem?_replicate, List.getElem?_map]
    rcases Nat.lt_or_ge j xs.length with h | h
    · rw [if_pos h, List.getElem?_range h]
      rfl
    · rw [if_neg (by omega), List.getElem?_eq_none (by rw [List.length_range]; exact h)]
      rfl
  rw [rep]
  have s2 := s1.trans (new_same nd (HO.lst ((List.range xs.length).map fun k => V.int (cvp xs ys k 0))))
  have nd0 : H d = none := s1.free nd
  refine ⟨_, rfl, a, _, rfl, .inl (s2.seq ha), ?_⟩
  refine ⟨_, rfl, by omega, by omega, for_range (lo := 0) (n := ((((xs.map V.int).length : Nat) : Int)).toNat) (fun i σ H' => Same H H' ∧ (∃ v3 v4, σ = [some (.ref a), some (.ref b), some (.ref d), v3, v4]) ∧ H' d = some (.lst ((List.range xs.length).map fun k => V.int (cvp xs ys k i)))) ⟨s2, ⟨none, none, rfl⟩, upd_same⟩ ?_ ?_⟩
  · rintro i σ H3 hi ⟨s3, ⟨v3, v4, rfl⟩, hd⟩
    have hi' : i < xs.length := by omega
    refine ⟨_, rfl, _, rfl, a, _, 0 + (i : Int), _, rfl, rfl, s3.seq ha, at_of (j := i) (by omega) (int_at hi'), rfl, _, rfl, ?_⟩
    by_cases cz : xs.getD i 0 = 0
    · rw [decide_eq_true (congrArg V.int cz)]
      refine iteF ⟨s3, ⟨_, v4, rfl⟩, ?_⟩
      rw [hd]
      congr 2
      refine List.map_congr_left fun k _ => ?_
      show V.int (cvp xs ys k i) = V.int (cvp xs ys k i + (if i ≤ k then xs.getD i 0 * ys.getD (k - i) 0 else 0))
      rw [cz, Int.zero_mul]
      split <;> rw [Int.add_zero]
    rw [decide_eq_false (fun e => cz (V.int.inj e))]
    refine iteT ⟨_, rfl, a, _, rfl, .inl (s3.seq ha), _, rfl, _, 0 + (i : Int), rfl, rfl, ?_⟩
    refine ⟨_, rfl, by omega, by omega, for_range (lo := 0) (n := ((((xs.map V.int).length : Nat) : Int) - (0 + (i : Int))).toNat) (fun j σ H' => Same H H' ∧ (∃ v4, σ = [some (.ref a), some (.ref b), some (.ref d), some (.int (0 + (i : Int))), v4]) ∧ H' d = some (.lst ((List.range xs.length).map fun k => V.int (if i ≤ k ∧ k < i + j then cvp xs ys k (i + 1) else cvp xs ys k i)))) ⟨s3, ⟨v4, rfl⟩, ?_⟩ ?_ ?_⟩
    · rw [hd]
      congr 2
      refine List.map_congr_left fun k _ => ?_
      rw [if_neg (by omega)]
    · rintro j σ H4 hj ⟨s4, ⟨v4, rfl⟩, hd4⟩
      have hij : i + j < xs.length := by omega
      have g4 : ((List.range xs.length).map fun k => V.int (if i ≤ k ∧ k < i + j then cvp xs ys k (i + 1) else cvp xs ys k i))[i + j]? = some (.int (cvp xs ys (i + j) i)) := by
        rw [List.getElem?_map, List.getElem?_range hij]
        show some (V.int (if i ≤ i + j ∧ i + j < i + j then _ else _)) = _
        rw [if_neg (by omega)]
      have gx := bx _ (getD_mem hi')
      have gy := by' _ (getD_mem (xs := ys) (i := j) (by omega))
      have cm : CMulW (xs.getD i 0) (ys.getD j 0) := wide_mul (a := A + 1) (b := B + 1) (Nat.lt_of_lt_of_le gx (Nat.pow_le_pow_right (by decide) (by omega))) (Nat.lt_of_lt_of_le gy (Nat.pow_le_pow_right (by decide) (by omega))) (by omega) (by omega) (by omega)
      refine ⟨_, rfl, _, rfl, _, rfl, 0 + (i : Int), 0 + (j : Int), rfl, rfl, d, _, _, _, rfl, rfl, SqL.of hd4, at_of (j := i + j) (by omega) g4, _, rfl, _, rfl, a, _, 0 + (i : Int), _, rfl, rfl, s4.seq ha, at_of (j := i) (by omega) (int_at hi'), _, rfl, _, rfl, b, _, 0 + (j : Int), _, rfl, rfl, s4.seq hb, at_of (j := j) (by omega) (int_at (by omega)), _, _, rfl, rfl, cm, _, _, rfl, rfl, _, rfl, _, rfl, _, rfl, 0 + (i : Int), 0 + (j : Int), rfl, rfl, d, _, _, i + j, rfl, rfl, hd4, ?_, ?_⟩
      · show ixN _ _ = _
        rw [List.length_map, List.length_range, show (0 + (i : Int) + (0 + (j : Int))) = ((i + j : Nat) : Int) by omega]
        unfold ixN
        rw [if_pos (by omega), if_pos (by omega)]
        congr 1
      · refine ⟨?_, ⟨_, rfl⟩, ?_⟩
        · intro e o he
          have ne : e ≠ d := fun z => by rw [z, nd0] at he; cases he
          rw [upd_ne ne]
          exact s4 _ _ he
        · rw [upd_same, set_range _ _ hij]
          congr 2
          refine List.map_congr_left fun k hk => ?_
          by_cases ck : k = i + j
          · subst ck
            rw [if_pos rfl, if_pos (by omega)]
            show V.int (_ + _) = V.int (cvp xs ys (i + j) i + (if i ≤ i + j then xs.getD i 0 * ys.getD (i + j - i) 0 else 0))
            rw [if_pos (by omega), show i + j - i = j by omega]
          · rw [if_neg ck]
            by_cases c2 : i ≤ k ∧ k < i + j
            · rw [if_pos c2, if_pos (by omega)]
            · rw [if_neg c2, if_neg (by omega)]
    · rintro σ H4 ⟨s4, ⟨v4, rfl⟩, hd4⟩
      refine ⟨s4, ⟨_, v4, rfl⟩, ?_⟩
      rw [hd4]
      congr 2
      refine List.map_congr_left fun k hk => ?_
      have hk' := List.mem_range.mp hk
      by_cases c : i ≤ k
      · rw [if_pos ⟨c, by omega⟩]
      · rw [if_neg (fun z => c z.1)]
        show V.int (cvp xs ys k i) = V.int (cvp xs ys k i + (if i ≤ k then _ else 0))
        rw [if_neg c, Int.add_zero]
  · rintro σ H3 ⟨s3, ⟨v3, v4, rfl⟩, hd⟩
    rw [Int.toNat_natCast, lxs] at hd
    refine ⟨_, rfl, q d H3 s3 nd0 ?_⟩
    rw [hd]
    unfold cvI
    rw [List.map_map]
    rfl
end
end Kx
end
section
set_option maxHeartbeats 4000000
namespace Kx
open PySem PySem.Spec PyProof.Rows L2 RZ
/-! ### the law's putting in, from the highest number down -/
def hS (us : List Rat) (f : Ser) : Nat → Ser
  | 0 => fun _ => 0
  | i + 1 => fun k => mulS (hS us f i) f k + (if k = 0 then us.getD (us.length - 1 - i) 0 else 0)
theorem mul_sum (c : Nat → Rat) (g : Nat → Ser) (f : Ser) (N n : Nat) : mulS (fun i => sumN (fun k => c k * g k i) N) f n = sumN (fun k => c k * mulS (g k) f n) N := by
  have e1 : mulS (fun i => sumN (fun k => c k * g k i) N) f n = sumN (fun j => sumN (fun k => c k * (g k j * f (n - j))) N) (n + 1) := sum_congr fun j _ => by
    rw [← sum_mulR]
    exact sum_congr fun k _ => Rat.mul_assoc _ _ _
  rw [e1, sum_swap]
  exact sum_congr fun k _ => sum_mul (c k) _ _
theorem hS_eq (us : List Rat) (f : Ser) : ∀ i, i ≤ us.length → ∀ k, hS us f i k = sumN (fun j => ser us (us.length - i + j) * powS f j k) i
  | 0, _, _ => rfl
  | i + 1, hi, k => by
    show mulS (hS us f i) f k + (if k = 0 then us.getD (us.length - 1 - i) 0 else 0) = _
    have e : hS us f i = fun k => sumN (fun j => ser us (us.length - i + j) * powS f j k) i := funext (hS_eq us f i (by omega))
    rw [e, mul_sum (fun j => ser us (us.length - i + j)) (fun j => powS f j) f i k, sum_first, Rat.add_comm]
    congr 1
    · show (if k = 0 then us.getD (us.length - 1 - i) 0 else 0) = ser us (us.length - (i + 1) + 0) * (if k = 0 then 1 else 0)
      rw [show us.length - (i + 1) + 0 = us.length - 1 - i by omega]
      split
      · exact (Rat.mul_one _).symm
      · exact (Rat.mul_zero _).symm
    · refine sum_congr fun j hj => ?_
      show ser us (us.length - i + j) * mulS (powS f j) f k = ser us (us.length - (i + 1) + (j + 1)) * powS f (j + 1) k
      rw [show us.length - (i + 1) + (j + 1) = us.length - i + j by omega]
      rfl
theorem hS_end {us : List Rat} {f : Ser} (f0 : f 0 = 0) {k : Nat} (hk : k < us.length) : hS us f us.length k = cmpS (ser us) f k := by
  rw [hS_eq us f us.length (Nat.le_refl _), ← cmpS_to f0 hk]
  refine sum_congr fun j _ => ?_
  rw [Nat.sub_self, Nat.zero_add]
theorem cvp_val {zs ys : List Int} {h f : Ser} {d e : Rat} {k : Nat} (hz : ∀ a, a ≤ k → ((zs.getD a 0 : Int) : Rat) = h a * d) (hy : ∀ a, ((ys.getD a 0 : Int) : Rat) = f a * e) : ∀ m, m ≤ k + 1 → ((cvp zs ys k m : Int) : Rat) = sumN (fun a => h a * f (k - a)) m * (d * e)
  | 0, _ => by
    show ((0 : Int) : Rat) = 0 * _
    rw [Rat.zero_mul]
    rfl
  | m + 1, hm => by
    show ((cvp zs ys k m + (if m ≤ k then zs.getD m 0 * ys.getD (k - m) 0 else 0) : Int) : Rat) = (sumN _ m + h m * f (k - m)) * _
    rw [if_pos (show m ≤ k by omega), Rat.intCast_add, cvp_val hz hy m (by omega), Rat.intCast_mul, hz m (by omega), hy]
    grind
def spPutL (K : PySem.W.Frag) : Sp := fun vs H Q _ => ∃ (x y : V) (us fs : List Rat) (L B M C : Nat), vs = [x, y] ∧ Ls K H x us ∧ Ls K H y fs ∧ us.length = fs.length ∧ 1 ≤ us.length ∧ us.length ≤ 28 ∧ ser fs 0 = 0 ∧ SmL L ∧ B ≤ 20000 ∧ SmL M ∧ C ≤ 20000 ∧ L * M ^ us.length < 2 ^ 9000 ∧ AllD L B us ∧ AllD M C fs ∧
  GivesL K H Q (toL us.length (cmpS (ser us) (ser fs)))
abbrev nPu : List Str := ["_law_u", "_law_f", "_law_xs", "_law_den_x", "_law_ys", "_law_den_y", "_law_found", "_law_scale_y", "_law_n"]
theorem upL_part {L B : Nat} {qs : List Rat} (h : AllD L B qs) (l0 : 0 < L) : ∀ x ∈ upL (lcmL 1 qs) qs, x.natAbs < 2 ^ B := fun x hx => by
  unfold upL at hx
  obtain ⟨q, hq, rfl⟩ := List.mem_map.mp hx
  exact (h q hq).part l0 (AllD.lcm l0 qs 1 h (Nat.one_dvd _)) (up_val ((lcmL_dvd qs 1).2 q hq))
theorem upL_val (qs : List Rat) (a : Nat) : (((upL (lcmL 1 qs) qs).getD a 0 : Int) : Rat) = ser qs a * ((lcmL 1 qs : Nat) : Rat) := getD_up (lcmL_dvd qs 1).2 a
theorem div_of' {u : Int} {L : Nat} {r : Rat} (L0 : 0 < L) (hu : (u : Rat) = r * (L : Rat)) : Rat.divInt u (L : Int) = r := div_of L0 hu
theorem ints_rev {xs : List Int} {i : Nat} (h : i < xs.length) : ((xs.map V.int).reverse)[i]? = some (.int (xs.getD (xs.length - 1 - i) 0)) := by
  rw [List.getElem?_reverse (by rw [List.length_map]; exact h), List.length_map]
  exact int_at (by omega)
section
variable {P : Program} {w : World} {K : PySem.W.Frag} {mg : Str → Option Value} {base : Heap} {f o0 : Addr} {fd : FuncData}
theorem scPuL : FnScope nPu ["_law_u", "_law_f"] (defScope L_put) := ⟨rfl, rfl, rfl, by decide +kernel, rfl, by decide +kernel, by decide +kernel⟩
theorem ok_lput (F : Fun K "_law_put" "_law_put" L_put f fd) (mn : mg "len" = none) (UW : Use P w K mg base CX0 1 "_law_whole" ["_law_u"] (spOol K) []) (UC : Use P w K mg base CX0 1 "_law_conv" ["_law_xs", "_law_ys"] (spConv K) []) (UL : Use P w K mg base CX0 1 "_law_low" ["_law_num_here", "_law_den"] spLowQ []) : FnOk P w K mg base CX0 2 f fd ["_law_u", "_law_f"] (spPutL K) := by
  refine F.ok scPuL (fun vs H Q E h => ?_) (fun cdv A outer s H vs Q E hr h => ?_)
  · obtain ⟨x, y, us, fs, L, B, M, C, rfl, _⟩ := h
    rfl
  obtain ⟨x, y, us, fs, L, B, M, C, rfl, lx, ly, le, l1, l28, f0, sL, lB, sM, lC, lm, zu, zf, q⟩ := h
  refine ⟨_, pss_cons (ps_asg (pe_use UW hr rfl pass0 (pa_cons (pv 0) pa_nil)) (pg_tup rfl (pgs_cons (pg_name (i := 2) scPuL.nd rfl (Or.inl rfl)) (pgs_cons (pg_name (i := 3) scPuL.nd rfl (Or.inr rfl)) pgs_nil))))
    (pss_cons (ps_asg (pe_use UW hr rfl pass0 (pa_cons (pv 1) pa_nil)) (pg_tup rfl (pgs_cons (pg_name (i := 4) scPuL.nd rfl (Or.inl rfl)) (pgs_cons (pg_name (i := 5) scPuL.nd rfl (Or.inl rfl)) pgs_nil))))
    (pss_cons (ps_asg (pe_tup (pa_cons (pe_op op_rep (pe_lst (pa_cons pe_int pa_nil)) (pe_callB call_len_seq rfl mn PySem.boot_len (pa_cons (pv 0) pa_nil))) (pa_cons pe_int pa_nil))) (pg_tup rfl (pgs_cons (pg_name (i := 6) scPuL.nd rfl (Or.inl rfl)) (pgs_cons (pg_name (i := 7) scPuL.nd rfl (Or.inr rfl)) pgs_nil))))
    (pss_cons (ps_for PassesOwn.never rfl (pi_list (pe_revL (pv 2))) (pg_name (i := 8) scPuL.nd rfl (Or.inl rfl))
      (pss_cons (ps_set (i := 6) scPuL.nd rfl (Or.inl rfl) (pe_use UC hr rfl pass0 (pa_cons (pv 6) (pa_cons (pv 4) pa_nil))))
      (pss_cons (ps_set (i := 7) scPuL.nd rfl (Or.inr rfl) (pe_op op_mulW (pv 7) (pv 5)))
      (pss_one (ps_asg (pe_op op_add (pe_ix ix_list (pv 6) pe_int (fun _ _ => rfl)) (pe_op op_mulW (pv 8) (pv 7))) (pg_sub (pv 6) pe_int set_list))))))
    (pss_one (ps_ret (pe_lc (own := [("_law_n", 8)]) (g := gName 8) (tt := tYes) rfl scPuL.nd (pi_list (pv 6)) (blkOk_by (N := nPu) (sc := defScope L_put) (by decide +kernel))
      (fun _ _ _ _ _ => pg_name (i := 8) scPuL.nd rfl (Or.inl rfl)) (fun _ _ _ _ _ => pts_nil)
      (fun _ _ _ _ _ => pe_use UL hr rfl pass0 (pa_cons (pv 8) (pa_cons (pe_op op_mulW (pv 3) (pv 7)) pa_nil))))))))), ?_⟩
  refine ⟨_, rfl, x, us, L, B, rfl, lx, by omega, sL, by omega, zu, fun b1 p1 H1 s1 n1 e1 t1 => ?_⟩
  refine ⟨p1, _, rfl, SqT.of t1, rfl, _, _, rfl, _, _, rfl, rfl, ?_⟩
  refine ⟨_, rfl, y, fs, M, C, rfl, ly.same s1, by omega, sM, by omega, zf, fun b2 p2 H2 s2 n2 e2 t2 => ?_⟩
  refine ⟨p2, _, rfl, SqT.of t2, rfl, _, _, rfl, _, _, rfl, rfl, ?_⟩
  have lx2 := (lx.same s1).same s2
  obtain ⟨xa, xs, rfl, hx, nx⟩ := lx2
  have hl : xs.length = us.length := nx.1
  have f1 := s2 _ _ e1
  have s12 := s1.trans s2
  have ux := upL_part zu sL.1
  have uy := upL_part zf sM.1
  have vx := upL_val us
  have vy := upL_val fs
  have dxp := lcmL_pos us 1 (by decide)
  have dyp := lcmL_pos fs 1 (by decide)
  have dxl : lcmL 1 us ≤ L := Nat.le_of_dvd sL.1 (AllD.lcm sL.1 us 1 zu (Nat.one_dvd _))
  have dyl : lcmL 1 fs ≤ M := Nat.le_of_dvd sM.1 (AllD.lcm sM.1 fs 1 zf (Nat.one_dvd _))
  have lux : (upL (lcmL 1 us) us).length = us.length := upL_len _ _
  have luy : (upL (lcmL 1 fs) fs).length = fs.length := upL_len _ _
  clear s1 s2 t1 t2 e1 n1 n2 lx ly nx
  generalize upL (lcmL 1 us) us = xi at *
  generalize upL (lcmL 1 fs) fs = yi at *
  generalize lcmL 1 us = dx at *
  generalize lcmL 1 fs = dy at *
  have dyb : ∀ i, i ≤ us.length → dx * dy ^ i < 2 ^ 9000 := fun i hi => by
    refine Nat.lt_of_le_of_lt (Nat.mul_le_mul dxl (Nat.le_trans (Nat.pow_le_pow_left dyl i) (Nat.pow_le_pow_right sM.1 hi))) lm
  have dyb2 : ∀ i, i ≤ us.length → dy ^ i < 2 ^ 9000 := fun i hi => Nat.lt_of_le_of_lt (Nat.le_mul_of_pos_left _ dxp) (dyb i hi)
  refine ⟨(by show 1 ≤ sizeLine; decide), fun c nc => ?_⟩
  have sc := new_same nc (HO.lst [V.int 0])
  refine ⟨_, rfl, xa, xs, rfl, .inl (SqL.of (sc _ _ hx)), c, ((xs.length : Nat) : Int), [.int 0], rfl, rfl, upd_same, by omega, by omega, (by show 1 * _ ≤ sizeLine; exact Nat.le_of_lt (small1000 (by omega))), fun d nd => ?_⟩
  have rep : (List.replicate (((xs.length : Nat) : Int)).toNat [V.int 0]).flatten = (List.replicate us.length (0 : Int)).map V.int := by
    rw [List.flatten_replicate_singleton, Int.toNat_natCast, hl, List.map_replicate]
  rw [rep]
  have sd := sc.trans (new_same nd (HO.lst ((List.replicate us.length (0 : Int)).map V.int)))
  have ed : upd (upd H2 c (HO.lst [V.int 0])) d (HO.lst ((List.replicate us.length (0 : Int)).map V.int)) d = some (HO.lst ((List.replicate us.length (0 : Int)).map V.int)) := upd_same
  have nd2 : H2 d = none := sc.free nd
  generalize upd (upd H2 c (HO.lst [V.int 0])) d (HO.lst ((List.replicate us.length (0 : Int)).map V.int)) = H3 at sd ed
  refine ⟨(by show 2 ≤ sizeLine; decide), fun t nt => ?_⟩
  have st := sd.trans (new_same nt (HO.tup [.ref d, .int 1]))
  refine ⟨t, _, rfl, SqT.of upd_same, rfl, _, _, rfl, _, _, rfl, rfl, ?_⟩
  have ed' := new_same nt (HO.tup [V.ref d, .int 1]) _ _ ed
  generalize upd H3 t (HO.tup [V.ref d, .int 1]) = H4 at st ed'
  refine ⟨_, rfl, b1, _, rfl, SqL.of (st _ _ f1), fun r nr => ?_⟩
  have dr : d ≠ r := fun z => by rw [z, nr] at ed'; cases ed'
  have sr := st.trans (new_same nr (HO.lst (xi.map V.int).reverse))
  have ed2 := new_same nr (HO.lst (xi.map V.int).reverse) _ _ ed'
  have er : upd H4 r (HO.lst (xi.map V.int).reverse) r = some (HO.lst (xi.map V.int).reverse) := upd_same
  have nr2 : H2 r = none := st.free nr
  generalize upd H4 r (HO.lst (xi.map V.int).reverse) = H5 at sr ed2 er
  refine ⟨r, rfl, ⟨_, SqL.of er⟩, for_list (K := K) (a := r) (xs := (xi.map V.int).reverse) (fun i σ H' => Same H2 H' ∧ H' r = some (HO.lst (xi.map V.int).reverse) ∧ ∃ (d : Addr) (v8 : Option V) (zs : List Int), σ = [some (.ref xa), some y, some (.ref b1), some (.int (dx : Nat)), some (.ref b2), some (.int (dy : Nat)), some (.ref d), some (.int ((dy ^ i : Nat))), v8] ∧
      H' d = some (.lst (zs.map V.int)) ∧ H2 d = none ∧ d ≠ r ∧ zs.length = us.length ∧ (∀ k, k < us.length → ((zs.getD k 0 : Int) : Rat) = hS us (ser fs) i k * ((dx * dy ^ i : Nat) : Rat)) ∧ ∀ z ∈ zs, z.natAbs < 2 ^ (25000 * (i + 1)))
    ⟨sr, er, d, none, _, rfl, ed2, nd2, dr, List.length_replicate, fun k hk => ?_, fun z hz => ?_⟩ (fun i σ H' _ h => SqL.of h.2.1) ?_ ?_⟩
  · rw [List.getD_eq_getElem?_getD, List.getElem?_replicate, if_pos hk]
    show ((0 : Int) : Rat) = 0 * _
    rw [Rat.zero_mul]
    rfl
  · rw [List.eq_of_mem_replicate hz]
    exact Nat.pow_pos (by decide)
  · rintro i z0 σ H6 hz0 ⟨s6, r6, d, v8, zs, rfl, hd, nd', ndr, lz, vz, bz⟩
    have hi : i < us.length := by
      rcases Nat.lt_or_ge i us.length with c | c
      · exact c
      · rw [List.getElem?_eq_none (by rw [List.length_reverse, List.length_map]; omega)] at hz0; cases hz0
    rw [ints_rev (by omega)] at hz0
    obtain rfl := Option.some.inj hz0
    have xm := ux _ (getD_mem (xs := xi) (i := xi.length - 1 - i) (by omega))
    have xv : ((xi.getD (xi.length - 1 - i) 0 : Int) : Rat) = us.getD (us.length - 1 - i) 0 * ((dx : Nat) : Rat) := by
      rw [vx, lux]
      rfl
    generalize xi.getD (xi.length - 1 - i) 0 = n at xm xv
    refine ⟨_, rfl, _, rfl, d, b2, zs, yi, 25000 * (i + 1), C, rfl, SqL.of hd, SqL.of (s6 _ _ e2), by omega, by omega, bz, uy, by omega, fun c H7 s7 nc7 e7 => ?_⟩
    have lcv : (cvI zs yi).length = us.length := by rw [cvI_len, lz]
    refine ⟨_, rfl, _, rfl, ((dy ^ i : Nat) : Int), (dy : Nat), rfl, rfl, ?_, ?_⟩
    · exact wide_mul (a := 9000) (b := 4450) (by rw [Int.natAbs_natCast]; exact dyb2 i (by omega)) (by rw [Int.natAbs_natCast]; exact Nat.lt_of_le_of_lt dyl sM.2) (by decide) (by decide) (by decide)
    have g0 : ((cvI zs yi).map V.int)[0]? = some (.int ((cvI zs yi).getD 0 0)) := int_at (by omega)
    have epw : ((dy ^ i : Nat) : Int) * (dy : Nat) = ((dy ^ (i + 1) : Nat) : Int) := by rw [Nat.pow_succ, Int.natCast_mul]
    refine ⟨_, rfl, c, _, 0, _, rfl, rfl, SqL.of e7, at_of (j := 0) rfl g0, _, rfl, _, rfl, n, ((dy ^ i : Nat) : Int) * (dy : Nat), rfl, rfl, ?_, _, _, rfl, rfl, _, rfl, c, _, 0, 0, rfl, rfl, e7, ?_, ?_⟩
    · rw [epw]
      exact wide_mul (a := B + 1) (b := 9000) (Nat.lt_of_lt_of_le xm (Nat.pow_le_pow_right (by decide) (by omega))) (by rw [Int.natAbs_natCast]; exact dyb2 (i + 1) (by omega)) (by omega) (by decide) (by omega)
    · show ixN _ 0 = some 0
      unfold ixN
      rw [if_pos (by decide), if_pos (by rw [List.length_map, lcv]; omega)]
      rfl
    rw [epw]
    have nc2 : H2 c = none := s6.free nc7
    have ncr : c ≠ r := fun z => by rw [z, r6] at nc7; cases nc7
    refine ⟨?_, by rw [upd_ne (Ne.symm ncr)]; exact s7 _ _ r6, c, _, (cvI zs yi).set 0 ((cvI zs yi).getD 0 0 + n * ((dy ^ (i + 1) : Nat) : Int)), rfl, ?_, nc2, ncr, by rw [List.length_set]; exact lcv, fun k hk => ?_, fun z hz => ?_⟩
    · intro e o he
      rw [upd_ne (fun z => by rw [z, nc2] at he; cases he)]
      exact s7 _ _ (s6 _ _ he)
    · rw [upd_same, List.map_set]
    · have val : (((cvI zs yi).getD k 0 : Int) : Rat) = mulS (hS us (ser fs) i) (ser fs) k * ((dx * dy ^ (i + 1) : Nat) : Rat) := by
        have e1 : (cvI zs yi).getD k 0 = cvp zs yi k (k + 1) := by
          unfold cvI
          rw [List.getD_eq_getElem?_getD, List.getElem?_map, List.getElem?_range (by omega)]
          exact cvp_stay zs yi k _ (by omega)
        rw [e1, cvp_val (h := hS us (ser fs) i) (f := ser fs) (d := ((dx * dy ^ i : Nat) : Rat)) (e := ((dy : Nat) : Rat)) (fun a ha => vz a (by omega)) vy (k + 1) (Nat.le_refl _)]
        have e2 : ((dx * dy ^ i : Nat) : Rat) * ((dy : Nat) : Rat) = ((dx * dy ^ (i + 1) : Nat) : Rat) := by
          rw [Nat.pow_succ, ← Nat.mul_assoc, Rat.natCast_mul (dx * dy ^ i) dy]
        rw [e2]
        rfl
      show _ = (mulS (hS us (ser fs) i) (ser fs) k + (if k = 0 then us.getD (us.length - 1 - i) 0 else 0)) * _
      rw [List.getD_eq_getElem?_getD, List.getElem?_set]
      by_cases ck : 0 = k
      · subst ck
        rw [if_pos rfl, if_pos (by omega), if_pos rfl]
        show (((cvI zs yi).getD 0 0 + n * ((dy ^ (i + 1) : Nat) : Int) : Int) : Rat) = _
        rw [Rat.intCast_add, val, Rat.intCast_mul, xv, Rat.natCast_mul dx (dy ^ (i + 1))]
        have : (((dy ^ (i + 1) : Nat) : Int) : Rat) = ((dy ^ (i + 1) : Nat) : Rat) := rfl
        rw [this]
        grind
      · rw [if_neg ck, if_neg (fun z => ck z.symm), ← List.getD_eq_getElem?_getD, val, Rat.add_zero]
    · have base : ∀ k, ((cvp zs yi k zs.length).natAbs) < 2 ^ (25000 * (i + 1) + 20005) := fun k => by
        refine Nat.lt_of_le_of_lt (cvp_bd bz uy k zs.length) ?_
        have h1 : zs.length * 2 ^ (25000 * (i + 1) + C) ≤ 28 * 2 ^ (25000 * (i + 1) + 20000) := Nat.mul_le_mul (by omega) (Nat.pow_le_pow_right (by decide) (by omega))
        have h2 : (2 : Nat) ^ (25000 * (i + 1) + 20005) = 32 * 2 ^ (25000 * (i + 1) + 20000) := by
          rw [show 25000 * (i + 1) + 20005 = 5 + (25000 * (i + 1) + 20000) by omega, Nat.pow_add]
        have h3 : 0 < 2 ^ (25000 * (i + 1) + 20000) := Nat.pow_pos (by decide)
        omega
      have mono : ∀ a, a < 2 ^ (25000 * (i + 1) + 20005) → a < 2 ^ (25000 * (i + 1 + 1)) := fun a h => Nat.lt_of_lt_of_le h (Nat.pow_le_pow_right (by decide) (by omega))
      rcases List.mem_or_eq_of_mem_set hz with hz | rfl
      · unfold cvI at hz
        obtain ⟨k, _, rfl⟩ := List.mem_map.mp hz
        exact mono _ (base k)
      · have h1 : ((cvI zs yi).getD 0 0).natAbs < 2 ^ (25000 * (i + 1) + 20005) := by
          unfold cvI
          rw [List.getD_eq_getElem?_getD, List.getElem?_map, List.getElem?_range (by omega)]
          exact base 0
        have h2 : (n * ((dy ^ (i + 1) : Nat) : Int)).natAbs < 2 ^ (25000 * (i + 1) + 20005) := by
          have := lt_mul (a := B) (b := 9000) xm (j := ((dy ^ (i + 1) : Nat) : Int)) (by rw [Int.natAbs_natCast]; exact dyb2 (i + 1) (by omega))
          exact Nat.lt_of_lt_of_le this (Nat.pow_le_pow_right (by decide) (by omega))
        exact Nat.lt_of_lt_of_le (lt_add h1 h2) (Nat.pow_le_pow_right (by decide) (by omega))
  · rintro σ H6 ⟨s6, r6, d, v8, zs, rfl, hd, nd', ndr, lz, vz, bz⟩
    rw [List.length_reverse, List.length_map, lux] at vz ⊢
    refine ⟨_, rfl, d, rfl, ⟨_, SqL.of hd⟩, fun D nD => ?_⟩
    refine lc_nums (K := K) (walk_list (K := K) (a := d) (xs := zs.map V.int)) (toL us.length (cmpS (ser us) (ser fs))) (by rw [toL_len, List.length_map, lz]) nD (by rw [List.length_map]; omega) (fun H' s => SqL.of (s _ _ hd)) ?_ (fun H' ws s h n => q D H' ws (s12.trans (s6.trans s)) (s12.free (s6.free nD)) h n)
    rintro i r x H7 k H8 hq s7 ⟨rfl, hx2⟩ hk
    have hi : i < us.length := by
      rcases Nat.lt_or_ge i us.length with c | c
      · exact c
      · rw [List.getElem?_eq_none (by rw [toL_len]; exact c)] at hq; cases hq
    rw [int_at (by omega)] at hx2
    obtain rfl := Option.some.inj hx2
    rw [toL_get hi] at hq
    obtain rfl := Option.some.inj hq
    have e1 : ((dx : Nat) : Int) * ((dy ^ us.length : Nat) : Int) = ((dx * dy ^ us.length : Nat) : Int) := (Int.natCast_mul _ _).symm
    refine ⟨rfl, _, rfl, _, rfl, _, rfl, (dx : Nat), ((dy ^ us.length : Nat) : Int), rfl, rfl, ?_, ?_⟩
    · exact wide_mul (a := 4450) (b := 9000) (by rw [Int.natAbs_natCast]; exact Nat.lt_of_le_of_lt dxl sL.2) (by rw [Int.natAbs_natCast]; exact dyb2 _ (Nat.le_refl _)) (by decide) (by decide) (by decide)
    have pz : 0 < dx * dy ^ us.length := Nat.mul_pos dxp (Nat.pow_pos dyp)
    refine ⟨zs.getD i 0, ((dx : Nat) : Int) * ((dy ^ us.length : Nat) : Int), rfl, by rw [e1]; omega, by rw [e1]; exact small_log (n := 9000) (dyb _ (Nat.le_refl _)) (by decide) (by decide), fun t H9 s9 n9 e9 => hk _ _ s9 (.at ?_)⟩
    rw [e9, e1, div_of pz (vz i hi), hS_end f0 hi]
end
end Kx
end
section
set_option maxHeartbeats 4000000
namespace Kx
open PySem PySem.Spec PyProof.Rows L2 RZ
/-! ### the rises of a step -/
theorem it_00S {f : Ser} (n : Nat) : itS f n 0 = 0 := it_00 n
theorem it_com {f : Ser} (f0 : f 0 = 0) : ∀ n k, itS f (n + 1) k = cmpS f (itS f n) k
  | 0, k => by
    show cmpS xS f k = cmpS f xS k
    rw [cmpS_xr]
    match k with
    | 0 => rw [cmpS_zero, f0]; rfl
    | k + 1 => exact cmpS_xl f (k + 1) (Nat.succ_pos k)
  | n + 1, k => by
    show cmpS (itS f (n + 1)) f k = cmpS f (cmpS (itS f n) f) k
    rw [← cmpS_assoc (it_00 n) f0]
    have e : itS f (n + 1) = cmpS f (itS f n) := funext (it_com f0 n)
    rw [e]
theorem cmpS_sub (u w f : Ser) (k : Nat) : cmpS (fun i => u i - w i) f k = cmpS u f k - cmpS w f k := by
  have h := congrFun (cmpS_add (fun i => u i - w i) w f) k
  have e : addS (fun i => u i - w i) w = u := funext fun i => by
    show u i - w i + w i = u i
    grind
  rw [e] at h
  have h2 : cmpS u f k = cmpS (fun i => u i - w i) f k + cmpS w f k := h
  rw [h2]
  grind
def dL (f : Ser) : Nat → Nat → Ser
  | 0, a => itS f a
  | i + 1, a => fun k => dL f i (a + 1) k - dL f i a k
theorem dL_eq {f : Ser} (f0 : f 0 = 0) : ∀ i a k, dL f i a k = cmpS (dfK f i) (itS f a) k
  | 0, a, k => by
    show itS f a k = cmpS xS (itS f a) k
    match k with
    | 0 => rw [cmpS_zero, it_00]; rfl
    | k + 1 => exact (cmpS_xl _ (k + 1) (Nat.succ_pos k)).symm
  | i + 1, a, k => by
    show dL f i (a + 1) k - dL f i a k = _
    rw [dL_eq f0 i (a + 1) k, dL_eq f0 i a k]
    have e : itS f (a + 1) = cmpS f (itS f a) := funext (it_com f0 a)
    rw [e, ← cmpS_assoc f0 (it_00 a)]
    exact (cmpS_sub _ _ _ k).symm
theorem dL_df {f : Ser} (f0 : f 0 = 0) (i : Nat) : dL f i 0 = dfK f i := funext fun k => by
  rw [dL_eq f0]
  show cmpS _ xS k = _
  rw [cmpS_xr]
theorem Gm.it {D m n : Nat} {f : Ser} (h : Gm D m f n) (n15 : n ≤ 15) : ∀ i, Gm D (m + 15 * i) (itS f i) n
  | 0 => Gm.x.mono (by omega)
  | i + 1 => by
    refine ((Gm.it h n15 i).cmp (h.mono (show m ≤ m + 15 * i by omega)) n15).mono (by omega)
theorem it_one {f : Ser} (f0 : f 0 = 0) (f1 : f 1 = 1) : ∀ i, itS f i 1 = 1
  | 0 => rfl
  | i + 1 => by
    show cmpS (itS f i) f 1 = 1
    rw [← cmpS_to f0 (show 1 < 2 by omega)]
    show (0 : Rat) + itS f i 0 * _ + itS f i 1 * powS f 1 1 = 1
    rw [it_00, it_one f0 f1 i, powS_one, f1]
    grind
theorem dL_one {f : Ser} (f0 : f 0 = 0) (f1 : f 1 = 1) : ∀ i a b, dL f i a 1 = dL f i b 1
  | 0, a, b => by
    show itS f a 1 = itS f b 1
    rw [it_one f0 f1, it_one f0 f1]
  | i + 1, a, b => by
    show dL f i (a + 1) 1 - dL f i a 1 = dL f i (b + 1) 1 - dL f i b 1
    rw [dL_one f0 f1 i (a + 1) (b + 1), dL_one f0 f1 i a b]
theorem Gm.dl {D m n : Nat} {f : Ser} (h : Gm D m f n) (f1 : f 1 = 1) (n15 : n ≤ 15) : ∀ i a, i + a ≤ 12 → Gm D (m + 200 + i) (dL f i a) n
  | 0, a, ha => (h.it n15 a).mono (by omega)
  | i + 1, a, ha => (Gm.sub (Gm.dl h f1 n15 i (a + 1) (by omega)) (Gm.dl h f1 n15 i a (by omega)) (dL_one h.z f1 i (a + 1) a)).mono (by omega)
/-- with 0 at the place 0 -/
theorem toT0 {n : Nat} {F : Ser} (h : F 0 = 0) : 0 :: toT n F = toL (n + 1) F := by rw [← toT_toL, h]
theorem AllD.cons0 {L B : Nat} {qs : List Rat} (h : AllD L B qs) : AllD L B (0 :: qs) := fun q hq => by
  rcases List.mem_cons.mp hq with rfl | hq
  · exact Dq.zero
  · exact h q hq
theorem Gm.allL {D m n : Nat} {F : Ser} (h : Gm D m F n) (d0 : 0 < D) (d : D < 2 ^ 90) (n1 : 1 ≤ n) (n15 : n ≤ 7) : AllD (D ^ (n - 1)) (15 * m + 700) (toL (n + 1) F) := by
  rw [← toT0 h.z]
  exact (h.all d0 d n1 n15).cons0
/-- .. new lists of numbers -/
theorem lc_rowsN {K : PySem.W.Frag} {J : It} {n : Nat} {G : Hp → Prop} {Y : Nat → Hp → V → Hp → Prop} (w : Walk J n G Y) {g : TG} {te : TE} {vs : List Nat} {σ : L2.St} {H1 : Hp} {D : Addr} {Qd : Hp → Prop} (rows : List (List Rat))
    (hl : rows.length = n) (nD : H1 D = none) (hn : n ≤ 900) (hG : ∀ H, Same H1 H → G H)
    (hs : ∀ i r x H H' (k : V → Hp → Prop), rows[i]? = some r → Same H1 H → Y i H x H' → (∀ b H4, Same H H4 → H b = none → Ls K H4 (.ref b) r → k (.ref b) H4) → g x (wipe σ vs) H' fun σ2 H2 => wipe σ2 vs = wipe σ vs ∧ te σ2 H2 k)
    (hd : ∀ H xs, Same H1 H → H D = some (.lst xs) → Lsl K H xs rows → (∀ x ∈ xs, x ≠ .ref D ∧ ∃ b, x = .ref b ∧ H1 b = none) → Qd H) :
    ∃ W : Nat → Nat → Hp → Prop, (∃ m, W 0 m (upd H1 D (.lst []))) ∧ ∀ i m H, W i m H →
      (J.stop i H ∧ Qd H) ∨ (J.go i H ∧ ∃ Nx : Hp → Prop, (∀ H', Nx H' → ∃ m', m' < m ∧ W (i + 1) m' H') ∧ ∀ x H', J.yld i H x H' → g x (wipe σ vs) H' fun σ2 H2 => wipe σ2 vs = wipe σ vs ∧ tYes σ2 H2 fun b H3 =>
        if b = true then te σ2 H3 fun y H4 => ∃ acc, H4 D = some (.lst acc) ∧ acc.length < sizeLine ∧ Nx (upd H4 D (.lst (acc ++ [y]))) else Nx H3) := by
  refine lc_accD w (fun i H y => (y ≠ .ref D ∧ ∃ b, y = .ref b ∧ H1 b = none) ∧ ∀ r, rows[i]? = some r → Ls K H y r) (fun i H H' y l h hD s => ⟨h.1, fun r hr => (h.2 r hr).butL hD h.1.1 s⟩) nD hn hG (fun i x H H' k hi s hD y hk => ?_) (fun H xs s h l hR => hd H xs s h ⟨by rw [l, hl], fun i x q h1 h2 => (hR i x h1).2 q h2⟩ fun x hx => ?_)
  · have e := List.getElem?_eq_getElem (l := rows) (i := i) (by omega)
    obtain ⟨l, hl⟩ := hD
    refine hs i _ x H H' k e s y fun b H4 s4 n4 r4 => hk _ H4 s4 ⟨⟨fun z => ?_, b, rfl, s.free n4⟩, fun q hq => ?_⟩
    · rw [V.ref.inj z, hl] at n4
      cases n4
    · rw [e] at hq
      rw [← Option.some.inj hq]
      exact r4
  · obtain ⟨i, hi⟩ := List.getElem?_of_mem hx
    exact (hR i x hi).1
def riL (qs : List Rat) : List (List Rat) := (List.range qs.length).map fun k => 0 :: dfL qs k
theorem riL_len (qs : List Rat) : (riL qs).length = qs.length := by unfold riL; rw [List.length_map, List.length_range]
def GivesLv (K : PySem.W.Frag) (H : Hp) (Q : VK) (rows : List (List Rat)) : Prop := ∀ v H', Same H H' → Lss K H' v rows → Q v H'
def spRis (K : PySem.W.Frag) : Sp := fun vs H Q _ => ∃ (x : V) (qs : List Rat), vs = [x] ∧ Ls K H x (0 :: qs) ∧ 2 ≤ qs.length ∧ qs.length ≤ 7 ∧ Slw qs.length (serS qs) ∧ serS qs 1 = 1 ∧ GivesLv K H Q (riL qs)
abbrev nRi : List Str := ["_law_f", "_law_line", "_law_i", "_law_found", "_law_u", "_law_w"]
theorem rows_snoc {K : PySem.W.Frag} {H : Hp} {pa b : Addr} {ps : List V} {rows : List (List Rat)} {r : List Rat} (h : Lsl K H ps rows) (hp : H pa = some (.lst ps)) (hne : ∀ x ∈ ps, x ≠ .ref pa) (hb : Ls K H (.ref b) r) (nb : b ≠ pa) :
    Lsl K (upd H pa (.lst (ps ++ [V.ref b]))) (ps ++ [.ref b]) (rows ++ [r]) ∧ ∀ x ∈ ps ++ [.ref b], x ≠ .ref pa := by
  have bu : But pa H (upd H pa (.lst (ps ++ [V.ref b]))) := fun e o n h => by rw [upd_ne n]; exact h
  refine ⟨Lsl.snoc ⟨h.1, fun i x r h1 h2 => (h.2 i x r h1 h2).butL hp (hne x (List.mem_of_getElem? h1)) bu⟩ (hb.butL hp (fun z => nb (V.ref.inj z)) bu), fun x hx => ?_⟩
  rcases List.mem_append.mp hx with hx | hx
  · exact hne x hx
  · obtain rfl := List.mem_singleton.mp hx
    exact fun z => nb (V.ref.inj z)
section
variable {P : Program} {w : World} {K : PySem.W.Frag} {mg : Str → Option Value} {base : Heap} {f o0 : Addr} {fd : FuncData}
end
end Kx
end
section
set_option maxHeartbeats 4000000
namespace Kx
open PySem PySem.Spec PyProof.Rows L2 RZ
/-- the first place, from i on, at which two lists differ -/
def difN : List Rat → List Rat → Nat → Option Nat
  | q :: qs, r :: rs, i => if q = r then difN qs rs (i + 1) else some i
  | _, _, _ => none
def difV (qs rs : List Rat) : V := match difN qs rs 0 with
  | none => .non
  | some k => .int ((k : Nat) + 1)
theorem difN_hit : ∀ (qs rs : List Rat) (i f : Nat) (q r : Rat), (∀ j < i, qs[j]? = rs[j]?) → qs[i]? = some q → rs[i]? = some r → q ≠ r → difN qs rs f = some (f + i)
  | [], _, _, _, _, _, _, h, _, _ => by simp at h
  | _ :: _, [], _, _, _, _, _, _, h, _ => by simp at h
  | q0 :: qs, r0 :: rs, 0, f, q, r, _, h1, h2, n => by
    obtain rfl : q0 = q := Option.some.inj h1
    obtain rfl : r0 = r := Option.some.inj h2
    exact if_neg n
  | q0 :: qs, r0 :: rs, i + 1, f, q, r, h, h1, h2, n => by
    have e : q0 = r0 := Option.some.inj (h 0 (Nat.succ_pos _))
    show (if q0 = r0 then difN qs rs (f + 1) else some f) = _
    rw [if_pos e, difN_hit qs rs i (f + 1) q r (fun j hj => h (j + 1) (Nat.succ_lt_succ hj)) h1 h2 n]
    exact congrArg some (by omega)
theorem difN_same : ∀ (qs rs : List Rat) (f : Nat), qs = rs → difN qs rs f = none
  | [], _, _, h => by subst h; rfl
  | q :: qs, _, f, h => by
    subst h
    show (if q = q then difN qs qs (f + 1) else some f) = none
    rw [if_pos rfl, difN_same qs qs (f + 1) rfl]
def spFd (K : PySem.W.Frag) (S CU : Addr) : Sp := fun vs H Q E => ∃ (x y : V) (qs rs : List Rat), vs = [x, y] ∧ StAt K S H x qs ∧ StAt K S H y rs ∧ (qs.length ≠ rs.length → Air H CU (fs2 "UnlikeOrders" "one" "other" [.int (qs.length : Int), .int (rs.length : Int)]) E) ∧
  (qs.length = rs.length → ∀ H', Same H H' → Q (difV qs rs) H')
abbrev nFd : List Str := ["one", "other", "at", "mine", "yours"]
section
variable {P : Program} {w : World} {K : PySem.W.Frag} {mg : Str → Option Value} {base : Heap} {f C S CF CO CU : Addr} {fd : FuncData}
theorem scFd : FnScope nFd ["one", "other"] (defScope F_first_difference) := ⟨rfl, rfl, rfl, by decide +kernel, rfl, by decide +kernel, by decide +kernel⟩
theorem ok_first (G : Fun K "first_difference" "first_difference" F_first_difference f fd) (k : StepK P w K mg base C S CF CO) (UO : Use P w K mg base (L2.CX P w) 3 "check_orders" ["one", "other"] (spCor K CU) []) (UN : MUse P w K mg base CX0 1 S "numbers" ["self"] (spNuS K S) []) (me : mg "enumerate" = none) (mz : mg "zip" = none) :
    FnOk P w K mg base (L2.CX P w) 4 f fd ["one", "other"] (spFd K S CU) := by
  refine G.okX scFd (fun vs H Q E h => ?_) (fun cdv A outer s H vs Q E hr h => ?_)
  · obtain ⟨x, y, qs, rs, rfl, _⟩ := h
    rfl
  obtain ⟨x, y, qs, rs, rfl, hX, hY, h1, h2⟩ := h
  have hr1 := hr.mono (show 1 ≤ 3 by decide)
  refine ⟨_, pss_cons (ps_expr (pe_use (E := E) UO hr rfl (passes_call (takes_of rfl rfl rfl rfl) (fun _ _ _ _ h => h)) (pa_cons (pv 0) (pa_cons (pv 1) pa_nil))))
    (pss_cons (ps_for (passes_of rfl) rfl (pi_enumzip rfl me rfl mz (pa_cons (pe_mu0 UN (pv 0) hr1 pass0) (pa_cons (pe_mu0 UN (pv 1) hr1 pass0) pa_nil))) (pg_tup rfl (pgs_cons (pg_name (i := 2) scFd.nd rfl (Or.inl rfl)) (pgs_cons (pg_tup rfl (pgs_cons (pg_name (i := 3) scFd.nd rfl (Or.inl rfl)) (pgs_cons (pg_name (i := 4) scFd.nd rfl (Or.inl rfl)) pgs_nil))) pgs_nil)))
      (pss_one (ps_if (pt_cmpR (op_neD hr.units) (pv 3) (pv 4) (nomark _)) (pss_one (ps_ret (pe_op op_add (pv 2) pe_int))) pss_nil)))
    (pss_one (ps_ret pe_non))), ?_⟩
  obtain ⟨xa, dx, b, xs, fx, rfl, hx, hb, nx, fx1, fx2, l2, l24⟩ := hX.num
  obtain ⟨ya, dy, c, ys, fy, rfl, hy, hc, ny, fy1, fy2, m2, m24⟩ := hY.num
  have lkn : ∀ {v : V} {rs : List Rat} (h : StAt K S H v rs), ∃ x dx fs, v = .ref x ∧ H x = some (.ins S dx fs) ∧ fs.lookup ("numbers" : Str) = none := fun ⟨x, dx, _, _, _, _, _, e, h, _⟩ => ⟨x, dx, _, e, h, rfl⟩
  refine ⟨_, rfl, _, rfl, _, _, (qs.length : Int), (rs.length : Int), rfl, ⟨xa, S, dx, fx, rfl, hx, k.c, k.nA _ (by simp [stN]), fx2⟩, ⟨ya, S, dy, fy, rfl, hy, k.c, k.nA _ (by simp [stN]), fy2⟩, fun e => ?_, fun e => h1 (fun z => e (by rw [z]))⟩
  have le : qs.length = rs.length := by omega
  have q := h2 le
  obtain ⟨x1, d1, f1, e1, hx1, n1⟩ := lkn hX
  obtain ⟨x2, d2, f2, e2, hx2, n2⟩ := lkn hY
  refine ⟨_, rfl, x1, d1, f1, e1, hx1, n1, _, qs, rfl, hX, fun a1 H1 zs1 s1 na1 ea1 nz1 => ?_⟩
  refine ⟨_, rfl, x2, d2, f2, e2, s1 _ _ hx2, n2, _, rs, rfl, hY.same s1, fun a2 H2 zs2 s2 na2 ea2 nz2 => ?_⟩
  have s12 := s1.trans s2
  have ea1 := s2 _ _ ea1
  have nz1 := nz1.same s2
  have lz : zs1.length = zs2.length := by rw [nz1.1, nz2.1, le]
  have lq : zs1.length = qs.length := nz1.1
  refine ⟨a1, a2, zs1, zs2, rfl, SqL.of ea1, SqL.of ea2, ?_⟩
  refine for_it (walk_enumzip (K := K) (a := a1) (b := a2) lz) (fun i σ H' => Same H2 H' ∧ (∀ j < i, qs[j]? = rs[j]?) ∧ ∃ v2 v3 v4, σ = [some (.ref xa), some (.ref ya), v2, v3, v4]) ⟨Same.refl H2, fun j h => absurd h (Nat.not_lt_zero j), none, none, none, rfl⟩ (fun i σ H' _ h => ⟨SqL.of (h.1 _ _ ea1), SqL.of (h.1 _ _ ea2)⟩) ?_ ?_
  · rintro i x σ H3 H4 hi ⟨s3, hj, v2, v3, v4, rfl⟩ ⟨T, U, y, z, rfl, hT, UT, hU, rfl, ey, ez⟩
    have sT := new_same hT (HO.tup [y, z])
    have hU' : upd H3 T (HO.tup [y, z]) U = none := by rw [upd_ne UT]; exact hU
    have sU := new_same hU' (HO.tup [.int (i : Nat), .ref T])
    have s4 := s3.trans (sT.trans sU)
    have eT := sU _ _ (show upd H3 T (HO.tup [y, z]) T = some _ from upd_same)
    refine ⟨U, [_, _], rfl, SqT.of upd_same, rfl, _, [_], rfl, _, [], rfl, T, [_, _], rfl, SqT.of eT, rfl, _, [_], rfl, _, [], rfl, rfl, rfl, ?_⟩
    obtain ⟨q0, eq, nq⟩ := nz1.get ey
    obtain ⟨r0, er, nr⟩ := nz2.get ez
    refine ⟨_, rfl, _, rfl, tupQ q0, tupQ r0, (nq.same s4).dp, (nr.same s4).dp, rfl, rfl, _, rfl, ?_⟩
    rw [eqv_num]
    by_cases c : q0 = r0
    · rw [decide_eq_true c]
      refine iteF ⟨s4, fun j hj' => ?_, _, _, _, rfl⟩
      rcases Nat.lt_or_ge j i with h | h
      · exact hj j h
      · obtain rfl : j = i := by omega
        rw [eq, er, c]
    · rw [decide_eq_false c]
      refine iteT ⟨_, rfl, ((i : Nat) : Int), 1, rfl, rfl, ?_⟩
      have := q _ (s12.trans s4)
      unfold difV at this
      rw [difN_hit qs rs i 0 q0 r0 hj eq er c, Nat.zero_add] at this
      exact this
  · rintro σ H3 ⟨s3, hj, v2, v3, v4, rfl⟩
    have := q _ (s12.trans s3)
    unfold difV at this
    rw [difN_same qs rs 0 (List.ext_getElem? fun j => ?_)] at this
    · exact this
    · rcases Nat.lt_or_ge j qs.length with h | h
      · exact hj j (by omega)
      · rw [List.getElem?_eq_none h, List.getElem?_eq_none (by omega)]
end
end Kx
end
section
set_option maxHeartbeats 4000000
namespace Kx
open PySem PySem.Spec PyProof.Rows L2 RZ
/-! ### the law's powers -/
theorem toL_zip {n : Nat} (f g : Ser) : (toL n f).zipWith (· + ·) (toL n g) = toL n (addS f g) := by
  apply List.ext_getElem?
  intro i
  rw [List.getElem?_zipWith]
  rcases Nat.lt_or_ge i n with c | c
  · rw [toL_get c, toL_get c, toL_get c]
    rfl
  · rw [List.getElem?_eq_none (l := toL n f) (by rw [toL_len]; exact c), List.getElem?_eq_none (l := toL n (addS f g)) (by rw [toL_len]; exact c)]
theorem toL_mul {n : Nat} (f : Ser) (t : Rat) : (toL n f).map (· * t) = toL n (fun i => f i * t) := by
  unfold toL
  rw [List.map_map]
  rfl
def frV (us ws : List Rat) : V := match difN us ws 0 with
  | none => .non
  | some k => .int (k : Nat)
def spFirst (K : PySem.W.Frag) : Sp := fun vs H Q _ => ∃ (x y : V) (us ws : List Rat), vs = [x, y] ∧ Ls K H x us ∧ Ls K H y ws ∧ us.length = ws.length ∧ us.length ≤ 100 ∧ Q (frV us ws) H
section
variable {P : Program} {w : World} {K : PySem.W.Frag} {mg : Str → Option Value} {base : Heap} {f o0 : Addr} {fd : FuncData}
abbrev nFr : List Str := ["_law_u", "_law_w", "_law_j"]
theorem scLFi : FnScope nFr ["_law_u", "_law_w"] (defScope L_first) := ⟨rfl, rfl, rfl, by decide +kernel, rfl, by decide +kernel, by decide +kernel⟩
theorem ok_lfirst (F : Fun K "_law_first" "_law_first" L_first f fd) (mn : mg "len" = none) (mr : mg "range" = none) : FnOk P w K mg base CX0 1 f fd ["_law_u", "_law_w"] (spFirst K) := by
  refine F.ok scLFi (fun vs H Q E h => ?_) (fun cdv A outer s H vs Q E hr h => ?_)
  · obtain ⟨x, y, us, ws, rfl, _⟩ := h
    rfl
  obtain ⟨x, y, us, ws, rfl, ⟨xa, xs, rfl, hx, nx⟩, ⟨ya, ys, rfl, hy, ny⟩, le, l1, q⟩ := h
  refine ⟨_, pss_cons (ps_for PassesOwn.never rfl (pi_range1 rfl mr (pa_cons (pe_callB call_len_seq rfl mn PySem.boot_len (pa_cons (pv 0) pa_nil)) pa_nil)) (pg_name (i := 2) scLFi.nd rfl (Or.inl rfl))
      (pss_one (ps_if (pt_cmpR (op_neD hr.units) (pe_ix ix_list (pv 0) (pv 2) (fun _ _ => rfl)) (pe_ix ix_list (pv 1) (pv 2) (fun _ _ => rfl)) (nomark _)) (pss_one (ps_ret (pv 2))) pss_nil)))
    (pss_one (ps_ret pe_non)), ?_⟩
  have lx : xs.length = us.length := nx.1
  have ly : ys.length = ws.length := ny.1
  refine ⟨_, rfl, xa, xs, rfl, .inl (SqL.of hx), ?_⟩
  refine ⟨_, rfl, by omega, by omega, for_range (lo := 0) (n := (((xs.length : Nat) : Int)).toNat) (fun i σ H' => H' = H ∧ (∀ j < i, us[j]? = ws[j]?) ∧ ∃ v2, σ = [some (.ref xa), some (.ref ya), v2]) ⟨rfl, fun j h => absurd h (Nat.not_lt_zero j), none, rfl⟩ ?_ ?_⟩
  · rintro i σ H3 hi ⟨rfl, hj, v2, rfl⟩
    obtain ⟨a, ea, na⟩ := nx.get' (i := i) (by omega)
    obtain ⟨b, eb, nb⟩ := ny.get' (i := i) (by omega)
    refine ⟨_, rfl, _, rfl, xa, xs, 0 + (i : Int), a, rfl, rfl, SqL.of hx, at_of (j := i) (by omega) ea, _, rfl, _, rfl, ya, ys, 0 + (i : Int), b, rfl, rfl, SqL.of hy, at_of (j := i) (by omega) eb, tupQ _, tupQ _, na.dp, nb.dp, rfl, rfl, _, rfl, ?_⟩
    have e1 := List.getElem?_eq_getElem (l := us) (i := i) (by omega)
    have e2 := List.getElem?_eq_getElem (l := ws) (i := i) (by omega)
    rw [eqv_num]
    by_cases c : us[i] = ws[i]
    · rw [decide_eq_true c]
      refine iteF ⟨rfl, fun j hj' => ?_, _, rfl⟩
      rcases Nat.lt_or_ge j i with h | h
      · exact hj j h
      · obtain rfl : j = i := by omega
        rw [e1, e2, c]
    · rw [decide_eq_false c]
      refine iteT ⟨_, rfl, ?_⟩
      unfold frV at q
      rw [difN_hit us ws i 0 _ _ hj e1 e2 c, Nat.zero_add] at q
      rw [show (0 + (i : Int)) = ((i : Nat) : Int) by omega]
      exact q
  · rintro σ H3 ⟨rfl, hj, v2, rfl⟩
    unfold frV at q
    rw [difN_same us ws 0 (List.ext_getElem? fun j => ?_)] at q
    · exact q
    · rcases Nat.lt_or_ge j us.length with h | h
      · exact hj j (by omega)
      · rw [List.getElem?_eq_none h, List.getElem?_eq_none (by omega)]
end
end Kx
end
section
set_option maxHeartbeats 4000000
namespace Kx
open PySem PySem.Spec PyProof.Rows L2 RZ
/-! ### drawn numbers -/
def NumQ (q : Rat) : Prop := q.den ∣ 60 ∧ q.num.natAbs ≤ 15
/-- what may stand in a creep: d is the lower part of a wide number, or 1 -/
def TlQ (d : Nat) (q : Rat) : Prop := q.den ∣ 60 * d ∧ q.num.natAbs ≤ 1000000000
def FitQ (q : Rat) : Prop := q.num.natAbs < 2 ^ 200 ∧ q.den < 2 ^ 200
theorem NumQ.tl {q : Rat} (h : NumQ q) (d : Nat) : TlQ d q := ⟨Nat.dvd_trans h.1 (Nat.dvd_mul_right _ _), by have := h.2; omega⟩
theorem TlQ.fit {q : Rat} {d : Nat} (h : TlQ d q) (d0 : 0 < d) (d99 : d ≤ 99) : FitQ q := by
  have h1 := Nat.le_of_dvd (show 0 < 60 * d by omega) h.1
  have h2 : (6000 : Nat) < 2 ^ 200 := by decide
  have h3 : (1000000000 : Nat) < 2 ^ 200 := by decide
  have h4 := h.2
  exact ⟨by omega, by omega⟩
theorem NumQ.fit {q : Rat} (h : NumQ q) : FitQ q := (h.tl 1).fit (by decide) (by decide)
theorem FitQ.ok {q : Rat} (h : FitQ q) : Ok q := ⟨Nat.lt_of_lt_of_le h.1 (Nat.pow_le_pow_right (by decide) (by decide)), Nat.lt_of_lt_of_le h.2 (Nat.pow_le_pow_right (by decide) (by decide))⟩
theorem low_num {a b : Int} (ha : a.natAbs ≤ 15) (b1 : 1 ≤ b) (b6 : b ≤ 6) : NumQ (Rat.divInt a b) := by
  constructor
  · rw [Rat.den_divInt, if_neg (by omega)]
    refine Nat.dvd_trans (Nat.div_dvd_of_dvd (Nat.gcd_dvd_left _ _)) ?_
    rcases (show b = 1 ∨ b = 2 ∨ b = 3 ∨ b = 4 ∨ b = 5 ∨ b = 6 by omega) with rfl | rfl | rfl | rfl | rfl | rfl <;> decide
  · have := (div_bd (p := a) (q := b) (n := 4) (m := 4) (by omega) (by show _ < 16; omega) (by show _ < 16; omega)).1
    have : (Rat.divInt a b).num.natAbs < 16 := this
    omega
theorem int_num {i : Int} (h : i.natAbs ≤ 15) : NumQ (i : Rat) := ⟨⟨60, rfl⟩, h⟩
theorem Nq.int {K : PySem.W.Frag} {H : Hp} {t : Addr} {i : Int} (h : H t = some (.tup [.int i, .int 1])) : Nq K H (.ref t) (i : Rat) := ⟨t, rfl, .inl h⟩
theorem Bag.lt {n : Nat} {H : Hp} {B p : Addr} (b : Bag n H B p) (k : Nat) (h : k ≤ n) : Bag k H B p := b.less h
def spNum (K : PySem.W.Frag) (m : Nat) (G : Rat → Prop) : Sp := fun vs H Q _ => ∃ (n : Nat) (B p : Addr), vs = [.ref B] ∧ Bag (n + m) H B p ∧ ∀ H' v q, Bag n H' B p → But B H H' → Nq K H' v q → G q → Q v H'
section
variable {P : Program} {w : World} {K : PySem.W.Frag} {mg : Str → Option Value} {base : Heap} {f o0 : Addr} {fd : FuncData}
theorem scNum : FnScope ["_law_bag_here", "_law_way"] ["_law_bag_here"] (defScope L_num) := ⟨rfl, rfl, rfl, by decide +kernel, rfl, by decide +kernel, by decide +kernel⟩
theorem ok_num (F : Fun K "_law_num" "_law_num" L_num f fd) (UD : Use P w K mg base CX0 1 "_law_draw" ["_law_bag_here", "_law_many_y"] spDraw []) (UL : Use P w K mg base CX0 1 "_law_low" ["_law_num_here", "_law_den"] spLowQ []) : FnOk P w K mg base CX0 2 f fd ["_law_bag_here"] (spNum K 3 NumQ) := by
  refine F.ok scNum (fun vs H Q E h => ?_) (fun cdv A outer s H vs Q E hr h => ?_)
  · obtain ⟨n, B, p, rfl, _⟩ := h
    rfl
  obtain ⟨n, B, p, rfl, hb, q⟩ := h
  refine ⟨_, pss_cons (ps_set (i := 1) scNum.nd rfl (Or.inl rfl) (pe_use UD hr rfl pass0 (pa_cons (pv 0) (pa_cons pe_int pa_nil))))
    (pss_cons (ps_if (pt_cmpR op_lt (pv 1) pe_int (nomark _)) (pss_one (ps_ret (pe_tup (pa_cons pe_int (pa_cons pe_int pa_nil))))) pss_nil)
    (pss_cons (ps_if (pt_cmpR op_lt (pv 1) pe_int (nomark _)) (pss_one (ps_ret (pe_tup (pa_cons (pe_op op_sub (pe_use UD hr rfl pass0 (pa_cons (pv 0) (pa_cons pe_int pa_nil))) pe_int) (pa_cons pe_int pa_nil))))) pss_nil)
    (pss_cons (ps_if (pt_cmpR op_lt (pv 1) pe_int (nomark _)) (pss_one (ps_ret (pe_use UL hr rfl pass0 (pa_cons (pe_op op_sub (pe_use UD hr rfl pass0 (pa_cons (pv 0) (pa_cons pe_int pa_nil))) pe_int) (pa_cons pe_int pa_nil))))) pss_nil)
    (pss_one (ps_ret (pe_use UL hr rfl pass0 (pa_cons (pe_op op_sub (pe_use UD hr rfl pass0 (pa_cons (pv 0) (pa_cons pe_int pa_nil))) pe_int) (pa_cons (pe_op op_add pe_int (pe_use UD hr rfl pass0 (pa_cons (pv 0) (pa_cons pe_int pa_nil)))) pa_nil)))))))), ?_⟩
  refine ⟨_, rfl, n + 2, B, p, 12, rfl, by decide, by decide, hb, fun H1 k b1 u1 k0 k1 => ?_⟩
  refine ⟨_, rfl, k, 4, rfl, rfl, _, rfl, ite2 (fun _ => ?_) (fun _ => ?_)⟩
  · exact ⟨(by show 2 ≤ sizeLine; decide), fun t nt => q _ _ 0 ((b1.put nt).less (by omega)) (u1.trans (But.new nt)) (.at upd_same) (int_num (i := 0) (by decide))⟩
  refine ⟨_, rfl, k, 9, rfl, rfl, _, rfl, ite2 (fun _ => ?_) (fun _ => ?_)⟩
  · refine ⟨_, rfl, n + 1, B, p, 19, rfl, by decide, by decide, b1, fun H2 d b2 u2 d0 d1 => ⟨d, 9, rfl, rfl, (by show 2 ≤ sizeLine; decide), fun t nt => ?_⟩⟩
    exact q _ _ ((d - 9 : Int) : Rat) ((b2.put nt).less (by omega)) (u1.trans (u2.trans (But.new nt))) (Nq.int upd_same) (int_num (by omega))
  refine ⟨_, rfl, k, 11, rfl, rfl, _, rfl, ite2 (fun _ => ?_) (fun _ => ?_)⟩
  · refine ⟨_, rfl, n + 1, B, p, 13, rfl, by decide, by decide, b1, fun H2 d b2 u2 d0 d1 => ⟨d, 6, rfl, rfl, d - 6, 2, rfl, by decide, by decide, fun t H3 s3 n3 e3 => ?_⟩⟩
    exact q _ _ _ ((b2.same s3).less (by omega)) (u1.trans (u2.trans (But.same s3))) (.at e3) (low_num (by omega) (by decide) (by decide))
  · refine ⟨_, rfl, n + 1, B, p, 31, rfl, by decide, by decide, b1, fun H2 d b2 u2 d0 d1 => ⟨d, 15, rfl, rfl, ?_⟩⟩
    refine ⟨_, rfl, n, B, p, 6, rfl, by decide, by decide, b2, fun H3 e b3 u3 e0 e1 => ⟨1, e, rfl, rfl, d - 15, 1 + e, rfl, by omega, ?_, fun t H4 s4 n4 e4 => ?_⟩⟩
    · exact Nat.lt_trans (log_bd (x := 1 + e) (n := 4) (by show _ < 16; omega) (by decide)) (by decide)
    exact q _ _ _ (b3.same s4) (u1.trans (u2.trans (u3.trans (But.same s4)))) (.at e4) (low_num (by omega) (by omega) (by omega))
theorem scWid : FnScope ["_law_bag_here"] ["_law_bag_here"] (defScope L_wide) := ⟨rfl, rfl, rfl, by decide +kernel, rfl, by decide +kernel, by decide +kernel⟩
def WideQ (q : Rat) : Prop := q.den ≤ 99 ∧ q.num.natAbs ≤ 1000000000
theorem ok_wide (F : Fun K "_law_wide" "_law_wide" L_wide f fd) (UD : Use P w K mg base CX0 1 "_law_draw" ["_law_bag_here", "_law_many_y"] spDraw []) (UL : Use P w K mg base CX0 1 "_law_low" ["_law_num_here", "_law_den"] spLowQ []) : FnOk P w K mg base CX0 2 f fd ["_law_bag_here"] (spNum K 2 WideQ) := by
  refine F.ok scWid (fun vs H Q E h => ?_) (fun cdv A outer s H vs Q E hr h => ?_)
  · obtain ⟨n, B, p, rfl, _⟩ := h
    rfl
  obtain ⟨n, B, p, rfl, hb, q⟩ := h
  refine ⟨_, pss_one (ps_ret (pe_use UL hr rfl pass0 (pa_cons (pe_op op_add pe_int (pe_use UD hr rfl pass0 (pa_cons (pv 0) (pa_cons (pe_op op_pow pe_int pe_int) pa_nil)))) (pa_cons (pe_op op_add pe_int (pe_use UD hr rfl pass0 (pa_cons (pv 0) (pa_cons pe_int pa_nil)))) pa_nil)))), ?_⟩
  refine ⟨_, rfl, 10, 9, rfl, rfl, ⟨by decide, by decide, by decide⟩, n + 1, B, p, _, rfl, by decide, by decide, hb, fun H1 d b1 u1 d0 d1 => ⟨1, d, rfl, rfl, ?_⟩⟩
  have d1 : d < 1000000000 := d1
  refine ⟨_, rfl, n, B, p, 99, rfl, by decide, by decide, b1, fun H2 e b2 u2 e0 e1 => ⟨1, e, rfl, rfl, 1 + d, 1 + e, rfl, by omega, ?_, fun t H3 s3 n3 e3 => ?_⟩⟩
  · exact Nat.lt_trans (log_bd (x := 1 + e) (n := 8) (by show _ < 256; omega) (by decide)) (by decide)
  refine q _ _ _ (b2.same s3) (u1.trans (u2.trans (But.same s3))) (.at e3) ⟨?_, ?_⟩
  · rw [Rat.den_divInt, if_neg (by omega)]
    have := Nat.div_le_self (1 + e).natAbs (Int.gcd (1 + e) (1 + d))
    omega
  · rw [Rat.num_divInt, Int.sign_eq_one_of_pos (by omega), Int.one_mul]
    have := Int.natAbs_ediv_le_natAbs (1 + d) ((Int.gcd (1 + e) (1 + d) : Nat) : Int)
    omega
theorem scNot : FnScope ["_law_bag_here", "_law_p"] ["_law_bag_here"] (defScope L_not0) := ⟨rfl, rfl, rfl, by decide +kernel, rfl, by decide +kernel, by decide +kernel⟩
theorem ok_not0 (F : Fun K "_law_not0" "_law_not0" L_not0 f fd) (UN : Use P w K mg base CX0 2 "_law_num" ["_law_bag_here"] (spNum K 3 NumQ) []) (UO : Use P w K mg base CX0 2 "_law_of" ["_law_bag_here", "_law_things"] spOfL []) : FnOk P w K mg base CX0 3 f fd ["_law_bag_here"] (spNum K 4 NumQ) := by
  refine F.ok scNot (fun vs H Q E h => ?_) (fun cdv A outer s H vs Q E hr h => ?_)
  · obtain ⟨n, B, p, rfl, _⟩ := h
    rfl
  obtain ⟨n, B, p, rfl, hb, q⟩ := h
  refine ⟨_, pss_cons (ps_set (i := 1) scNot.nd rfl (Or.inl rfl) (pe_use UN hr rfl pass0 (pa_cons (pv 0) pa_nil)))
    (pss_one (ps_ret (pe_ifExp (pt_cmpR op_ne (pe_ix ix_tup (pv 1) pe_int (fun _ _ => rfl)) pe_int (nomark _)) (pv 1)
      (pe_use UO hr rfl pass0 (pa_cons (pv 0) (pa_cons (pe_lst (pa_cons (pe_tup (pa_cons pe_int (pa_cons pe_int pa_nil))) (pa_cons (pe_tup (pa_cons (pe_un un_neg pe_int) (pa_cons pe_int pa_nil))) (pa_cons (pe_tup (pa_cons pe_int (pa_cons pe_int pa_nil))) (pa_cons (pe_tup (pa_cons pe_int (pa_cons pe_int pa_nil))) (pa_cons (pe_tup (pa_cons (pe_un un_neg pe_int) (pa_cons pe_int pa_nil))) (pa_cons (pe_tup (pa_cons pe_int (pa_cons pe_int pa_nil))) pa_nil))))))) pa_nil)))))), ?_⟩
  refine ⟨_, rfl, n + 1, B, p, rfl, hb, fun H1 v a b1 u1 na ba => ?_⟩
  obtain ⟨va, rfl, sa, _⟩ := na.sq
  refine ⟨_, rfl, va, _, 0, _, rfl, rfl, sa, rfl, rfl, _, rfl, ?_⟩
  by_cases c : a.num = 0
  case neg =>
    rw [decide_eq_false (fun e => c (V.int.inj e))]
    exact iteT ⟨_, rfl, q _ _ a (b1.less (by omega)) u1 na ba⟩
  rw [decide_eq_true (congrArg V.int c)]
  refine iteF ⟨_, rfl, ⟨(by show 2 ≤ sizeLine; decide), fun t1 m1 => ⟨_, rfl, (by show 2 ≤ sizeLine; decide), fun t2 m2 => ⟨(by show 2 ≤ sizeLine; decide), fun t3 m3 => ⟨(by show 2 ≤ sizeLine; decide), fun t4 m4 => ⟨_, rfl, (by show 2 ≤ sizeLine; decide), fun t5 m5 => ⟨(by show 2 ≤ sizeLine; decide), fun t6 m6 => ⟨(by show 6 ≤ sizeLine; decide), fun l nl => ?_⟩⟩⟩⟩⟩⟩⟩⟩
  have e1 := new_same m1 (HO.tup [.int 1, .int 1])
  have e2 := new_same m2 (HO.tup [.int (-1), .int 1])
  have e3 := new_same m3 (HO.tup [.int 2, .int 1])
  have e4 := new_same m4 (HO.tup [.int 1, .int 2])
  have e5 := new_same m5 (HO.tup [.int (-3), .int 2])
  have e6 := new_same m6 (HO.tup [.int 5, .int 1])
  have el := new_same nl (HO.lst [V.ref t1, V.ref t2, V.ref t3, V.ref t4, V.ref t5, V.ref t6])
  have r6 := el
  have r5 := e6.trans r6
  have r4 := e5.trans r5
  have r3 := e4.trans r4
  have r2 := e3.trans r3
  have r1 := e2.trans r2
  have sA := e1.trans r1
  have sT := e1.trans (e2.trans (e3.trans (e4.trans (e5.trans (e6)))))
  have bb := b1.same sT
  refine ⟨n, B, p, l, _, rfl, upd_same, (bb.at nl).1, (by show 0 < 6; decide), (by show 6 ≤ 1000; decide), b1.same sA, fun H2 x b2 u2 hx => ?_⟩
  have uu : But B H H2 := u1.trans ((But.same sA).trans u2)
  simp only [List.mem_cons, List.not_mem_nil, or_false] at hx
  rcases hx with rfl | rfl | rfl | rfl | rfl | rfl
  · exact q H2 _ 1 b2 uu ((Nq.at (K := K) (r1 _ _ (show _ = some (rT 1) from upd_same))).go (b1.same sA) (Go.of u2)) ⟨by decide +kernel, by decide +kernel⟩
  · exact q H2 _ (-1) b2 uu ((Nq.at (K := K) (r2 _ _ (show _ = some (rT (-1)) from upd_same))).go (b1.same sA) (Go.of u2)) ⟨by decide +kernel, by decide +kernel⟩
  · exact q H2 _ 2 b2 uu ((Nq.at (K := K) (r3 _ _ (show _ = some (rT 2) from upd_same))).go (b1.same sA) (Go.of u2)) ⟨by decide +kernel, by decide +kernel⟩
  · exact q H2 _ (mkRat (1) 2) b2 uu ((Nq.at (K := K) (r4 _ _ (show _ = some (rT (mkRat (1) 2)) from upd_same))).go (b1.same sA) (Go.of u2)) ⟨by decide +kernel, by decide +kernel⟩
  · exact q H2 _ (mkRat (-3) 2) b2 uu ((Nq.at (K := K) (r5 _ _ (show _ = some (rT (mkRat (-3) 2)) from upd_same))).go (b1.same sA) (Go.of u2)) ⟨by decide +kernel, by decide +kernel⟩
  · exact q H2 _ 5 b2 uu ((Nq.at (K := K) (r6 _ _ (show _ = some (rT 5) from upd_same))).go (b1.same sA) (Go.of u2)) ⟨by decide +kernel, by decide +kernel⟩
end
end Kx
end
section
set_option maxHeartbeats 4000000
namespace Kx
open PySem PySem.Spec PyProof.Rows L2 RZ
/-! ### drawn orders, flats, steps -/
theorem Bag.upd {n : Nat} {H : Hp} {B p a : Addr} {o : HO} (b : Bag n H B p) (h1 : a ≠ B) (h2 : a ≠ p) : Bag n (upd H a o) B p := by
  obtain ⟨ns, i, r, sd, c, e1, e2, h3⟩ := b.ex
  exact ⟨ns, i, r, sd, c, by rw [upd_ne (Ne.symm h1)]; exact e1, by rw [upd_ne (Ne.symm h2)]; exact e2, h3⟩
theorem Nl.snocD {K : PySem.W.Frag} {H : Hp} {D : Addr} {ys : List V} {rs : List Rat} {y : V} {r : Rat} (h : Nl K H ys rs) (hD : H D = some (.lst ys)) (hy : Nq K H y r) : Nl K (upd H D (.lst (ys ++ [y]))) (ys ++ [y]) (rs ++ [r]) := by
  have nb := h.snoc hy
  exact ⟨nb.1, fun j x r h1 h2 => (nb.2 j x r h1 h2).butL hD (fun b o n h => by rw [upd_ne n]; exact h)⟩
def spOrd : Sp := fun vs H Q _ => ∃ (n : Nat) (B p : Addr), vs = [.ref B] ∧ Bag (n + 2) H B p ∧ ∀ H' (k : Nat), Bag n H' B p → But B H H' → 2 ≤ k → k ≤ 11 → Q (.int (k : Nat)) H'
def spFla : Sp := fun vs H Q _ => ∃ (n : Nat) (B p : Addr) (deg : Nat), vs = [.ref B, .int (deg : Nat)] ∧ Bag (n + 2) H B p ∧ 2 ≤ deg ∧ deg ≤ 11 ∧ ∀ H' (k : Nat), Bag n H' B p → But B H H' → 1 ≤ k → k + 1 ≤ deg → Q (.int (k : Nat)) H'
def spTai (K : PySem.W.Frag) : Sp := fun vs H Q _ => ∃ (n : Nat) (B p : Addr) (deg kk : Nat), vs = [.ref B, .int (deg : Nat), .int (kk : Nat)] ∧ Bag (n + 60) H B p ∧ deg ≤ 11 ∧ 1 ≤ kk ∧ kk + 1 ≤ deg ∧
  ∀ H' v rs d, Bag n H' B p → But B H H' → Ls K H' v rs → rs.length = deg + 1 → 0 < d → d ≤ 99 → (∀ r ∈ rs, TlQ d r) → rs[0]? = some 0 → rs[1]? = some 0 → Q v H'
/-- a slow step is drawn -/
def GivesSl (K : PySem.W.Frag) (n : Nat) (B p : Addr) (deg : Nat) (H : Hp) (Q : VK) : Prop := ∀ H' v rs d, Bag n H' B p → But B H H' → Ls K H' v (0 :: 1 :: rs) → rs.length + 1 = deg → 0 < d → d ≤ 99 → (∀ r ∈ rs, TlQ d r) → Q v H'
def spCre (K : PySem.W.Frag) : Sp := fun vs H Q _ => ∃ (n : Nat) (B p : Addr) (deg kk : Nat), vs = [.ref B, .int (deg : Nat), .int (kk : Nat)] ∧ Bag (n + 60) H B p ∧ deg ≤ 11 ∧ 1 ≤ kk ∧ kk + 1 ≤ deg ∧ GivesSl K n B p deg H Q
def spSlo (K : PySem.W.Frag) : Sp := fun vs H Q _ => ∃ (n : Nat) (B p : Addr) (deg : Nat), vs = [.ref B, .int (deg : Nat)] ∧ Bag (n + 63) H B p ∧ 2 ≤ deg ∧ deg ≤ 11 ∧ GivesSl K n B p deg H Q
def spStp (K : PySem.W.Frag) : Sp := fun vs H Q _ => ∃ (n : Nat) (B p : Addr) (deg : Nat) (x : V) (c : Rat), vs = [.ref B, .int (deg : Nat), x] ∧ Bag (n + 40) H B p ∧ 2 ≤ deg ∧ deg ≤ 11 ∧ Nq K H x c ∧ ∀ H' v rs, Bag n H' B p → But B H H' → Ls K H' v (0 :: c :: rs) → rs.length + 1 = deg → (∀ r ∈ rs, NumQ r) → Q v H'
def spNsl (K : PySem.W.Frag) : Sp := fun vs H Q _ => ∃ (n : Nat) (B p : Addr) (deg : Nat), vs = [.ref B, .int (deg : Nat)] ∧ Bag (n + 42) H B p ∧ 2 ≤ deg ∧ deg ≤ 11 ∧ ∀ H' v qs, Bag n H' B p → But B H H' → Ls K H' v (0 :: qs) → qs.length = deg → (∀ r ∈ qs, FitQ r) → serS qs 1 ≠ 1 → Q v H'
abbrev nTl : List Str := ["_law_bag_here", "_law_deg", "_law_kk", "_law_found", "_law_j"]
section
variable {P : Program} {w : World} {K : PySem.W.Frag} {mg : Str → Option Value} {base : Heap} {f o0 : Addr} {fd : FuncData}
theorem scOrd : FnScope ["_law_bag_here"] ["_law_bag_here"] (defScope L_order) := ⟨rfl, rfl, rfl, by decide +kernel, rfl, by decide +kernel, by decide +kernel⟩
theorem ok_order (F : Fun K "_law_order" "_law_order" L_order f fd) (UD : Use P w K mg base CX0 1 "_law_draw" ["_law_bag_here", "_law_many_y"] spDraw []) (UO : Use P w K mg base CX0 2 "_law_of" ["_law_bag_here", "_law_things"] spOfL []) : FnOk P w K mg base CX0 3 f fd ["_law_bag_here"] spOrd := by
  refine F.ok scOrd (fun vs H Q E h => ?_) (fun cdv A outer s H vs Q E hr h => ?_)
  · obtain ⟨n, B, p, rfl, _⟩ := h
    rfl
  obtain ⟨n, B, p, rfl, hb, q⟩ := h
  have hr1 := hr.mono (show 1 ≤ 2 by decide)
  refine ⟨_, pss_cons (ps_if (pt_cmpR op_eq (pe_use UD hr1 rfl pass0 (pa_cons (pv 0) (pa_cons pe_int pa_nil))) pe_int (nomark _)) (pss_one (ps_ret (pe_op op_add pe_int (pe_use UD hr1 rfl pass0 (pa_cons (pv 0) (pa_cons pe_int pa_nil)))))) pss_nil)
    (pss_one (ps_ret (pe_use UO hr rfl pass0 (pa_cons (pv 0) (pa_cons (pe_lst (pa_cons pe_int (pa_cons pe_int (pa_cons pe_int (pa_cons pe_int (pa_cons pe_int (pa_cons pe_int (pa_cons pe_int (pa_cons pe_int (pa_cons pe_int (pa_cons pe_int (pa_cons pe_int (pa_cons pe_int (pa_cons pe_int (pa_cons pe_int (pa_cons pe_int (pa_cons pe_int pa_nil))))))))))))))))) pa_nil))))), ?_⟩
  refine ⟨_, rfl, n + 1, B, p, 24, rfl, by decide, by decide, hb, fun H1 k b1 u1 k0 k1 => ⟨rfl, _, rfl, ite2 (fun _ => ?_) (fun _ => ?_)⟩⟩
  · refine ⟨_, rfl, n, B, p, 3, rfl, by decide, by decide, b1, fun H2 d b2 u2 d0 d1 => ⟨9, d, rfl, rfl, ?_⟩⟩
    have := q H2 (9 + d).toNat b2 (u1.trans u2) (by omega) (by omega)
    rw [show ((9 + d).toNat : Int) = 9 + d by omega] at this
    exact this
  · refine ⟨_, rfl, (by show 16 ≤ sizeLine; decide), fun l nl => ⟨n, B, p, l, _, rfl, upd_same, (b1.at nl).1, (by show 0 < 16; decide), (by show 16 ≤ 1000; decide), b1.put nl, fun H2 x b2 u2 hx => ?_⟩⟩
    have uu : But B H H2 := u1.trans ((But.new nl).trans u2)
    simp only [List.mem_cons, List.not_mem_nil, or_false] at hx
    rcases hx with rfl | rfl | rfl | rfl | rfl | rfl | rfl | rfl | rfl | rfl | rfl | rfl | rfl | rfl | rfl | rfl
    · exact q H2 3 b2 uu (by decide) (by decide)
    · exact q H2 4 b2 uu (by decide) (by decide)
    · exact q H2 5 b2 uu (by decide) (by decide)
    · exact q H2 6 b2 uu (by decide) (by decide)
    · exact q H2 3 b2 uu (by decide) (by decide)
    · exact q H2 4 b2 uu (by decide) (by decide)
    · exact q H2 5 b2 uu (by decide) (by decide)
    · exact q H2 6 b2 uu (by decide) (by decide)
    · exact q H2 7 b2 uu (by decide) (by decide)
    · exact q H2 4 b2 uu (by decide) (by decide)
    · exact q H2 5 b2 uu (by decide) (by decide)
    · exact q H2 2 b2 uu (by decide) (by decide)
    · exact q H2 3 b2 uu (by decide) (by decide)
    · exact q H2 6 b2 uu (by decide) (by decide)
    · exact q H2 7 b2 uu (by decide) (by decide)
    · exact q H2 8 b2 uu (by decide) (by decide)
theorem scFla : FnScope ["_law_bag_here", "_law_deg"] ["_law_bag_here", "_law_deg"] (defScope L_flat) := ⟨rfl, rfl, rfl, by decide +kernel, rfl, by decide +kernel, by decide +kernel⟩
theorem ok_flat (F : Fun K "_law_flat" "_law_flat" L_flat f fd) (mm : mg "min" = none) (UD : Use P w K mg base CX0 1 "_law_draw" ["_law_bag_here", "_law_many_y"] spDraw []) (UO : Use P w K mg base CX0 2 "_law_of" ["_law_bag_here", "_law_things"] spOfL []) : FnOk P w K mg base CX0 3 f fd ["_law_bag_here", "_law_deg"] spFla := by
  refine F.ok scFla (fun vs H Q E h => ?_) (fun cdv A outer s H vs Q E hr h => ?_)
  · obtain ⟨n, B, p, deg, rfl, _⟩ := h
    rfl
  obtain ⟨n, B, p, deg, rfl, hb, d2, d11, q⟩ := h
  have hr1 := hr.mono (show 1 ≤ 2 by decide)
  refine ⟨_, pss_one (ps_ret (pe_callB (call_min2 rfl) rfl mm (by decide +kernel) (pa_cons (pe_op op_sub (pv 1) pe_int) (pa_cons (pe_use UO hr rfl pass0 (pa_cons (pv 0) (pa_cons (pe_lst (pa_cons pe_int (pa_cons pe_int (pa_cons pe_int (pa_cons pe_int (pa_cons pe_int (pa_cons pe_int (pa_cons pe_int (pa_cons (pe_op op_add pe_int (pe_use UD hr1 rfl pass0 (pa_cons (pv 0) (pa_cons (pe_op op_sub (pv 1) pe_int) pa_nil)))) pa_nil))))))))) pa_nil))) pa_nil)))), ?_⟩
  refine ⟨_, rfl, (deg : Nat), 1, rfl, rfl, _, rfl, _, rfl, _, rfl, (deg : Nat), 1, rfl, rfl, n + 1, B, p, _, rfl, by omega, by omega, hb, fun H1 k b1 u1 k0 k1 => ⟨1, k, rfl, rfl, ?_⟩⟩
  refine ⟨(by show 8 ≤ sizeLine; decide), fun l nl => ⟨n, B, p, l, _, rfl, upd_same, (b1.at nl).1, (by show 0 < 8; decide), (by show 8 ≤ 1000; decide), b1.put nl, fun H2 x b2 u2 hx => ?_⟩⟩
  have uu : But B H H2 := u1.trans ((But.new nl).trans u2)
  have fin : ∀ i : Int, 1 ≤ i → Q (.int (if i < (deg : Nat) - 1 then i else (deg : Nat) - 1)) H2 := fun i hi => by
    have := q H2 (if i < (deg : Nat) - 1 then i else ((deg : Nat) : Int) - 1).toNat b2 uu (by split <;> omega) (by split <;> omega)
    rw [show (((if i < (deg : Nat) - 1 then i else ((deg : Nat) : Int) - 1).toNat : Nat) : Int) = if i < (deg : Nat) - 1 then i else ((deg : Nat) : Int) - 1 by split <;> omega] at this
    exact this
  simp only [List.mem_cons, List.not_mem_nil, or_false] at hx
  rcases hx with rfl | rfl | rfl | rfl | rfl | rfl | rfl | rfl
  · exact ⟨_, 1, rfl, fin 1 (by decide)⟩
  · exact ⟨_, 1, rfl, fin 1 (by decide)⟩
  · exact ⟨_, 2, rfl, fin 2 (by decide)⟩
  · exact ⟨_, 2, rfl, fin 2 (by decide)⟩
  · exact ⟨_, 1, rfl, fin 1 (by decide)⟩
  · exact ⟨_, 2, rfl, fin 2 (by decide)⟩
  · exact ⟨_, 3, rfl, fin 3 (by decide)⟩
  · exact ⟨_, 1 + k, rfl, fin (1 + k) (by omega)⟩
theorem scTai : FnScope nTl ["_law_bag_here", "_law_deg", "_law_kk"] (defScope L_tail) := ⟨rfl, rfl, rfl, by decide +kernel, rfl, by decide +kernel, by decide +kernel⟩
theorem yesT {σ : L2.St} {H : Hp} {t e : Hp → Prop} (h : t H) : tYes σ H (fun b H3 => if b = true then t H3 else e H3) := by
  show (if true = true then t H else e H)
  rw [if_pos rfl]
  exact h
theorem ok_tail (F : Fun K "_law_tail" "_law_tail" L_tail f fd) (mr : mg "range" = none) (UD : Use P w K mg base CX0 1 "_law_draw" ["_law_bag_here", "_law_many_y"] spDraw []) (UN : Use P w K mg base CX0 2 "_law_num" ["_law_bag_here"] (spNum K 3 NumQ) []) (UZ : Use P w K mg base CX0 3 "_law_not0" ["_law_bag_here"] (spNum K 4 NumQ) []) (UW : Use P w K mg base CX0 2 "_law_wide" ["_law_bag_here"] (spNum K 2 WideQ) []) : FnOk P w K mg base CX0 4 f fd ["_law_bag_here", "_law_deg", "_law_kk"] (spTai K) := by
  refine F.ok scTai (fun vs H Q E h => ?_) (fun cdv A outer s H vs Q E hr h => ?_)
  · obtain ⟨n, B, p, deg, kk, rfl, _⟩ := h
    rfl
  obtain ⟨n, B, p, deg, kk, rfl, hb, d11, k1, kd, q⟩ := h
  have hr1 := hr.mono (show 1 ≤ 3 by decide)
  have hr2 := hr.mono (show 2 ≤ 3 by decide)
  refine ⟨_, C8.pss_cut (ps_set (i := 3) scTai.nd rfl (Or.inl rfl) (pe_op op_cat (pe_op op_cat (pe_op op_rep (pe_lst (pa_cons (pe_tup (pa_cons pe_int (pa_cons pe_int pa_nil))) pa_nil)) (pe_op op_add (pv 2) pe_int)) (pe_lst (pa_cons (pe_use UZ hr rfl pass0 (pa_cons (pv 0) pa_nil)) pa_nil)))
      (pe_lc (own := [("_law_j", 4)]) (g := gName 4) (tt := tYes) rfl scTai.nd (pi_range2 rfl mr (pa_cons (pe_op op_add (pv 2) pe_int) (pa_cons (pe_op op_add (pv 1) pe_int) pa_nil))) (blkOk_by (N := nTl) (sc := defScope L_tail) (by decide +kernel)) (fun _ _ _ _ _ => pg_name (i := 4) scTai.nd rfl (Or.inl rfl)) (fun _ _ _ _ _ => pts_nil) (fun _ _ _ _ _ => pe_use UN hr2 rfl pass0 (pa_cons (pv 0) pa_nil)))))
    (pss_cons (ps_if (pt_cmpR op_eq (pe_use UD hr1 rfl pass0 (pa_cons (pv 0) (pa_cons pe_int pa_nil))) pe_int (nomark _)) (pss_one (ps_asg (pe_use UW hr2 rfl pass0 (pa_cons (pv 0) pa_nil)) (pg_sub (pv 3) (pe_op op_add (pe_op op_add (pv 2) pe_int) (pe_use UD hr1 rfl pass0 (pa_cons (pv 0) (pa_cons (pe_op op_sub (pv 1) (pv 2)) pa_nil)))) set_list))) pss_nil)
    (pss_one (ps_ret (pv 3)))), ?_⟩
  refine ⟨fun σ H1 => ∃ (e : Addr) (xs : List V) (qs : List Rat), σ = [some (.ref B), some (.int (deg : Nat)), some (.int (kk : Nat)), some (.ref e), none] ∧ Bag (n + 10) H1 B p ∧ But B H H1 ∧ e ≠ B ∧ e ≠ p ∧ H e = none ∧ H1 e = some (.lst xs) ∧ Nl K H1 xs qs ∧ qs.length = deg + 1 ∧ (∀ r ∈ qs, NumQ r) ∧ qs[0]? = some 0 ∧ qs[1]? = some 0, ?_, ?_⟩
  · refine ⟨(by show 2 ≤ sizeLine; decide), fun t nt => ⟨(by show 1 ≤ sizeLine; decide), fun c nc => ⟨_, rfl, _, _, rfl, rfl, c, ((kk : Nat) : Int) + 1, [.ref t], rfl, rfl, upd_same, by omega, by omega, (by show 1 * _ ≤ sizeLine; exact Nat.le_of_lt (small1000 (by omega))), fun d nd => ?_⟩⟩⟩
    have rep : (List.replicate (((kk : Nat) : Int) + 1).toNat [V.ref t]).flatten = List.replicate (kk + 1) (.ref t) := by
      rw [List.flatten_replicate_singleton]
      congr 1
    rw [rep]
    have s2 := new_same nt (HO.tup [.int 0, .int 1])
    have s3 := new_same nc (HO.lst [V.ref t])
    have s4 := new_same nd (HO.lst (List.replicate (kk + 1) (V.ref t)))
    have sA := s2.trans (s3.trans s4)
    have z0 : Nq K _ (.ref t) 0 := .at (K := K) ((s3.trans s4) _ _ (show _ = some (rT 0) from upd_same))
    have nE := reps z0 (kk + 1)
    have eE : upd (upd (upd H t (HO.tup [.int 0, .int 1])) c (HO.lst [V.ref t])) d (HO.lst (List.replicate (kk + 1) (V.ref t))) d = some (HO.lst (List.replicate (kk + 1) (V.ref t))) := upd_same
    have bE := hb.same sA
    have eB : d ≠ B := ((hb.same (s2.trans s3)).at nd).1
    generalize upd (upd (upd H t (HO.tup [.int 0, .int 1])) c (HO.lst [V.ref t])) d (HO.lst (List.replicate (kk + 1) (V.ref t))) = HE at sA nE eE bE
    refine ⟨_, rfl, n + 56, B, p, rfl, bE, fun H2 y r b2 u2 ny br => ⟨(by show 1 ≤ sizeLine; decide), fun l nl => ?_⟩⟩
    have s6 := new_same nl (HO.lst [y])
    refine ⟨d, l, _, _, rfl, rfl, s6 _ _ (u2 _ _ eB eE), upd_same, Nat.le_of_lt (small1000 (by rw [List.length_replicate]; show _ + 1 ≤ _; omega)), fun e ne => ?_⟩
    have s7 := new_same ne (HO.lst (List.replicate (kk + 1) (V.ref t) ++ [y]))
    have s67 := s6.trans s7
    have b3 := b2.same s67
    have u3 : But B H (upd (upd H2 l (HO.lst [y])) e (HO.lst (List.replicate (kk + 1) (V.ref t) ++ [y]))) := ((But.same sA).trans u2).trans (But.same s67)
    have n3 : Nl K (upd (upd H2 l (HO.lst [y])) e (HO.lst (List.replicate (kk + 1) (V.ref t) ++ [y]))) (List.replicate (kk + 1) (V.ref t) ++ [y]) (List.replicate (kk + 1) 0 ++ [r]) := ((nE.go bE (Go.of u2)).snoc ny).same s67
    have e3 : upd (upd H2 l (HO.lst [y])) e (HO.lst (List.replicate (kk + 1) (V.ref t) ++ [y])) e = some (HO.lst (List.replicate (kk + 1) (V.ref t) ++ [y])) := upd_same
    have eB3 := ((b2.same s6).at ne).1
    generalize upd (upd H2 l (HO.lst [y])) e (HO.lst (List.replicate (kk + 1) (V.ref t) ++ [y])) = H3 at b3 u3 n3 e3
    refine ⟨_, rfl, _, _, rfl, rfl, _, rfl, _, _, rfl, rfl, _, _, rfl, ⟨by omega, by omega, by omega, by omega⟩, fun D nD => ?_⟩
    have DB := b3.at nD
    refine lc_range (lo := ((kk : Nat) : Int) + 2) (n := (((deg : Nat) : Int) + 1 - (((kk : Nat) : Int) + 2)).toNat) (fun i H' => Bag (n + 56 - 3 * i) H' B p ∧ But B H3 H' ∧ ∃ ys rs, H' D = some (.lst ys) ∧ Nl K H' ys rs ∧ rs.length = i ∧ ∀ r ∈ rs, NumQ r) ⟨b3.put nD, But.new nD, [], [], upd_same, Nl.nil, rfl, fun _ h => nomatch h⟩ ?_ ?_
    · rintro i H' hi ⟨b', u', ys, rs, hD, ny, rl, br⟩
      have yl : ys.length = i := by rw [ny.1, rl]
      refine ⟨rfl, yesT ⟨_, rfl, n + 53 - 3 * i, B, p, rfl, b'.less (show n + 53 - 3 * i + 3 ≤ n + 56 - 3 * i by omega), fun H5 y r b5 u5 nr brr => ?_⟩⟩
      have hD5 := u5 _ _ DB.1 hD
      refine ⟨ys, hD5, small1000 (by omega), ?_, ?_, ys ++ [y], rs ++ [r], upd_same, Nl.snocD (ny.go b' (Go.of u5)) hD5 nr, by rw [List.length_append, rl]; rfl, ?_⟩
      · exact (b5.less (show n + 56 - 3 * (i + 1) ≤ n + 53 - 3 * i by omega)).upd DB.1 DB.2
      · intro b o hb he
        rw [upd_ne (fun z => by rw [z, nD] at he; cases he)]
        exact u5 _ _ hb (u' _ _ hb he)
      · intro t ht
        rcases List.mem_append.mp ht with ht | ht
        · exact br t ht
        · rw [List.mem_singleton.mp ht]; exact brr
    · rintro H4 ⟨b4, u4, ys, rs, hD, ny', rl, br'⟩
      have he4 := u4 _ _ eB3 e3
      have nx4 := n3.go b3 (Go.of u4)
      have yl : ys.length = deg - kk - 1 := by rw [ny'.1, rl]; omega
      refine ⟨e, D, _, _, rfl, rfl, he4, hD, Nat.le_of_lt (small1000 (by rw [List.length_append, List.length_replicate]; show _ + 1 + _ ≤ _; omega)), fun k nk => ?_⟩
      have s5 := new_same nk (HO.lst (List.replicate (kk + 1) (V.ref t) ++ [y] ++ ys))
      refine ⟨k, _, (List.replicate (kk + 1) 0 ++ [r]) ++ rs, rfl, (b4.same s5).less (by omega), (u3.trans u4).trans (But.same s5), (b4.at nk).1, (b4.at nk).2, (u3.trans u4).free b4 nk, upd_same, (nx4.app ny').same s5, ?_, fun t ht => ?_, ?_, ?_⟩
      · rw [List.length_append, List.length_append, List.length_replicate, rl]
        show kk + 1 + 1 + _ = _
        omega
      · rcases List.mem_append.mp ht with h | h
        · rcases List.mem_append.mp h with h | h
          · rw [List.eq_of_mem_replicate h]; exact int_num (i := 0) (by decide)
          · rw [List.mem_singleton.mp h]; exact br
        · exact br' t h
      · obtain ⟨k', rfl⟩ : ∃ k', kk = k' + 1 := ⟨kk - 1, by omega⟩
        rfl
      · obtain ⟨k', rfl⟩ : ∃ k', kk = k' + 1 := ⟨kk - 1, by omega⟩
        rfl
  rintro σ H1 ⟨e, xs, qs, rfl, b1, u1, eB, ep, eN, he, nx, lq, bq, q0, q1⟩
  have lx : xs.length = qs.length := nx.1
  refine ⟨_, rfl, n + 9, B, p, 16, rfl, by decide, by decide, b1, fun H2 k b2 u2 k0 k1' => ⟨rfl, _, rfl, ite2 (fun _ => ?_) (fun _ => ?_)⟩⟩
  · refine ⟨_, rfl, n + 7, B, p, rfl, b2, fun H3 y r b3 u3 ny br => ?_⟩
    refine ⟨_, rfl, _, rfl, _, _, rfl, rfl, _, rfl, _, rfl, _, rfl, _, _, rfl, rfl, n + 6, B, p, _, rfl, by omega, by omega, b3, fun H4 d b4 u4 d0 d1 => ⟨_, d, rfl, rfl, ?_⟩⟩
    have u24 := u2.trans (u3.trans u4)
    have he4 := u24 _ _ eB he
    have hj : ((kk : Nat) : Int) + 1 + d = ((kk + 1 + d.toNat : Nat) : Int) := by omega
    refine ⟨e, xs, _, kk + 1 + d.toNat, rfl, rfl, he4, ?_, ?_⟩
    · show ixN xs.length (((kk : Nat) : Int) + 1 + d) = _
      rw [hj]
      unfold ixN
      rw [if_pos (by omega), if_pos (by omega)]
      congr 1
    have nx4 := nx.go b1 (Go.of u24)
    have ny4 := ny.go b3 (Go.of u4)
    have bu : But e H4 (upd H4 e (.lst (xs.set (kk + 1 + d.toNat) y))) := fun b o n h => by rw [upd_ne n]; exact h
    have r0 : 0 < r.den := Nat.pos_of_ne_zero r.den_nz
    have tl : ∀ z ∈ qs.set (kk + 1 + d.toNat) r, TlQ r.den z := fun z hz => by
      rcases List.mem_or_eq_of_mem_set hz with hz | rfl
      · exact (bq z hz).tl _
      · exact ⟨Nat.dvd_mul_left _ _, br.2⟩
    refine ⟨_, rfl, q _ _ (qs.set (kk + 1 + d.toNat) r) r.den ((b4.upd eB ep).less (by omega)) (fun b o hb ho => ?_) ⟨e, _, rfl, upd_same, ⟨by rw [List.length_set, List.length_set, lx], fun i x z h1 h2 => ?_⟩⟩ (by rw [List.length_set]; exact lq) r0 br.1 tl ?_ ?_⟩
    · rw [upd_ne (fun z => by rw [z, eN] at ho; cases ho)]
      exact u24 _ _ hb (u1 _ _ hb ho)
    · rw [List.getElem?_set] at h1 h2
      by_cases c : kk + 1 + d.toNat = i
      · subst c
        rw [if_pos rfl, if_pos (by omega)] at h1 h2
        rw [← Option.some.inj h1, ← Option.some.inj h2]
        exact ny4.butL he4 bu
      · rw [if_neg c] at h1 h2
        exact (nx4.2 i x z h1 h2).butL he4 bu
    · rw [List.getElem?_set, if_neg (by omega)]; exact q0
    · rw [List.getElem?_set, if_neg (by omega)]; exact q1
  · refine ⟨_, rfl, q _ _ qs 1 (b2.less (by omega)) (u1.trans u2) ⟨e, xs, rfl, u2 _ _ eB he, nx.go b1 (Go.of u2)⟩ lq (by decide) (by decide) (fun r hr => (bq r hr).tl 1) q0 q1⟩
theorem scCre : FnScope ["_law_bag_here", "_law_deg", "_law_kk"] ["_law_bag_here", "_law_deg", "_law_kk"] (defScope L_creep) := ⟨rfl, rfl, rfl, by decide +kernel, rfl, by decide +kernel, by decide +kernel⟩
theorem x_plus {rs : List Rat} {n : Nat} (h : (0 :: 0 :: rs).length = n + 1) (n1 : 1 ≤ n) : (xL n).zipWith (· + ·) (0 :: 0 :: rs) = 0 :: 1 :: rs := by
  have l : rs.length = n - 1 := by simp at h; omega
  show (0 + 0 : Rat) :: (1 + 0 : Rat) :: (List.replicate (n - 1) (0 : Rat)).zipWith (· + ·) rs = _
  rw [show (0 + 0 : Rat) = 0 by decide +kernel, show (1 + 0 : Rat) = 1 by decide +kernel, ← l]
  congr 2
  apply List.ext_getElem?
  intro i
  rw [List.getElem?_zipWith, List.getElem?_replicate]
  rcases Nat.lt_or_ge i rs.length with c | c
  · rw [if_pos c, List.getElem?_eq_getElem c]
    show some (0 + rs[i]) = some rs[i]
    rw [Rat.zero_add]
  · rw [if_neg (by omega), List.getElem?_eq_none c]
theorem x_ok (n : Nat) : AllO (xL n) := fun q hq => by
  rcases List.mem_cons.mp hq with rfl | hq
  · exact Ok.zero
  rcases List.mem_cons.mp hq with rfl | hq
  · exact Ok.one
  · rw [List.eq_of_mem_replicate hq]; exact Ok.zero
theorem ok_creep (F : Fun K "_law_creep" "_law_creep" L_creep f fd) (UX : Use P w K mg base CX0 1 "_law_x" ["_law_deg"] (spX K) []) (UT : Use P w K mg base CX0 4 "_law_tail" ["_law_bag_here", "_law_deg", "_law_kk"] (spTai K) []) (UP : Use P w K mg base CX0 3 "_law_plus" ["_law_u", "_law_w"] (spTwoL K (· + ·)) []) : FnOk P w K mg base CX0 5 f fd ["_law_bag_here", "_law_deg", "_law_kk"] (spCre K) := by
  refine F.ok scCre (fun vs H Q E h => ?_) (fun cdv A outer s H vs Q E hr h => ?_)
  · obtain ⟨n, B, p, deg, kk, rfl, _⟩ := h
    rfl
  obtain ⟨n, B, p, deg, kk, rfl, hb, d11, k1, kd, q⟩ := h
  have hr1 := hr.mono (show 1 ≤ 4 by decide)
  have hr3 := hr.mono (show 3 ≤ 4 by decide)
  refine ⟨_, pss_one (ps_ret (pe_use UP hr3 rfl pass0 (pa_cons (pe_use UX hr1 rfl pass0 (pa_cons (pv 1) pa_nil)) (pa_cons (pe_use UT hr rfl pass0 (pa_cons (pv 0) (pa_cons (pv 1) (pa_cons (pv 2) pa_nil)))) pa_nil)))), ?_⟩
  refine ⟨_, rfl, deg, rfl, by omega, by omega, fun b H1 ys s1 nb hb1 mb1 => ?_⟩
  refine ⟨_, rfl, _, rfl, _, rfl, n, B, p, deg, kk, rfl, hb.same s1, d11, k1, kd, fun H2 v rs d b2 u2 lv lr d0 d99 tl r0 r1 => ?_⟩
  have lx : Ls K H1 (.ref b) (xL deg) := ⟨b, ys, rfl, hb1, mb1⟩
  have lxl : (xL deg).length = deg + 1 := by
    show (stL deg).length + 1 = _
    rw [stL_len (by omega)]
  obtain ⟨rs', rfl⟩ : ∃ rs', rs = 0 :: 0 :: rs' := by
    match rs, r0, r1 with
    | a :: b :: rs', r0, r1 =>
      rw [Option.some.inj (show some a = some 0 from r0), Option.some.inj (show some b = some 0 from r1)]
      exact ⟨rs', rfl⟩
    | [a], _, r1 => cases r1
    | [], r0, _ => cases r0
  refine ⟨.ref b, v, xL deg, _, rfl, lx.go (by omega) (hb.same s1) (Go.of u2), lv, by rw [lxl, lr], by omega, x_ok deg, fun r hr => ((tl r hr).fit d0 d99).ok, fun c H3 zs s3 nc hc mc => ?_⟩
  rw [x_plus lr (by omega)] at mc
  refine q H3 _ rs' d (b2.same s3) ((But.same s1).trans (u2.trans (But.same s3))) ⟨c, zs, rfl, hc, mc⟩ ?_ d0 d99 fun r hr => tl r (List.mem_cons_of_mem _ (List.mem_cons_of_mem _ hr))
  have : rs'.length + 1 + 1 = deg + 1 := lr
  omega
theorem scSlo : FnScope ["_law_bag_here", "_law_deg"] ["_law_bag_here", "_law_deg"] (defScope L_slow) := ⟨rfl, rfl, rfl, by decide +kernel, rfl, by decide +kernel, by decide +kernel⟩
theorem ok_slow (F : Fun K "_law_slow" "_law_slow" L_slow f fd) (UD : Use P w K mg base CX0 1 "_law_draw" ["_law_bag_here", "_law_many_y"] spDraw []) (UX : Use P w K mg base CX0 1 "_law_x" ["_law_deg"] (spX K) []) (UF : Use P w K mg base CX0 3 "_law_flat" ["_law_bag_here", "_law_deg"] spFla []) (UC : Use P w K mg base CX0 5 "_law_creep" ["_law_bag_here", "_law_deg", "_law_kk"] (spCre K) []) : FnOk P w K mg base CX0 6 f fd ["_law_bag_here", "_law_deg"] (spSlo K) := by
  refine F.ok scSlo (fun vs H Q E h => ?_) (fun cdv A outer s H vs Q E hr h => ?_)
  · obtain ⟨n, B, p, deg, rfl, _⟩ := h
    rfl
  obtain ⟨n, B, p, deg, rfl, hb, d2, d11, q⟩ := h
  have hr1 := hr.mono (show 1 ≤ 5 by decide)
  have hr3 := hr.mono (show 3 ≤ 5 by decide)
  refine ⟨_, pss_one (ps_ret (pe_ifExp (pt_cmpR op_eq (pe_use UD hr1 rfl pass0 (pa_cons (pv 0) (pa_cons pe_int pa_nil))) pe_int (nomark _)) (pe_use UX hr1 rfl pass0 (pa_cons (pv 1) pa_nil)) (pe_use UC hr rfl pass0 (pa_cons (pv 0) (pa_cons (pv 1) (pa_cons (pe_use UF hr3 rfl pass0 (pa_cons (pv 0) (pa_cons (pv 1) pa_nil))) pa_nil)))))), ?_⟩
  refine ⟨_, rfl, n + 62, B, p, 10, rfl, by decide, by decide, hb, fun H1 k b1 u1 k0 k1 => ⟨rfl, _, rfl, ite2 (fun _ => ?_) (fun _ => ?_)⟩⟩
  · refine ⟨_, rfl, deg, rfl, by omega, by omega, fun b H2 ys s2 nb hb2 mb2 => ?_⟩
    exact q H2 _ (List.replicate (deg - 1) 0) 1 ((b1.same s2).less (by omega)) (u1.trans (But.same s2)) ⟨b, ys, rfl, hb2, mb2⟩ (by rw [List.length_replicate]; omega) (by decide) (by decide) fun r hr => by rw [List.eq_of_mem_replicate hr]; exact (int_num (i := 0) (by decide)).tl 1
  · refine ⟨_, rfl, _, rfl, _, rfl, _, rfl, n + 60, B, p, deg, rfl, b1, d2, d11, fun H2 j b2 u2 j1 jd => ⟨n, B, p, deg, j, rfl, b2, d11, j1, jd, fun H3 v rs d b3 u3 => q H3 v rs d b3 (u1.trans (u2.trans u3))⟩⟩
theorem scStp : FnScope ["_law_bag_here", "_law_deg", "_law_cc", "_law_j"] ["_law_bag_here", "_law_deg", "_law_cc"] (defScope L_step) := ⟨rfl, rfl, rfl, by decide +kernel, rfl, by decide +kernel, by decide +kernel⟩
theorem ok_stp (F : Fun K "_law_step" "_law_step" L_step f fd) (mr : mg "range" = none) (UN : Use P w K mg base CX0 2 "_law_num" ["_law_bag_here"] (spNum K 3 NumQ) []) : FnOk P w K mg base CX0 3 f fd ["_law_bag_here", "_law_deg", "_law_cc"] (spStp K) := by
  refine F.ok scStp (fun vs H Q E h => ?_) (fun cdv A outer s H vs Q E hr2 h => ?_)
  · obtain ⟨n, B, p, deg, x, c, rfl, _⟩ := h
    rfl
  obtain ⟨n, B, p, deg, x, c, rfl, hb, d2, d11, nc, q⟩ := h
  refine ⟨_, pss_one (ps_ret (pe_op op_cat (pe_lst (pa_cons (pe_tup (pa_cons pe_int (pa_cons pe_int pa_nil))) (pa_cons (pv 2) pa_nil))) (pe_lc (own := [("_law_j", 3)]) (g := gName 3) (tt := tYes) rfl scStp.nd (pi_range2 rfl mr (pa_cons pe_int (pa_cons (pe_op op_add (pv 1) pe_int) pa_nil))) (blkOk_by (N := ["_law_bag_here", "_law_deg", "_law_cc", "_law_j"]) (sc := defScope L_step) (by decide +kernel)) (fun _ _ _ _ _ => pg_name (i := 3) scStp.nd rfl (Or.inl rfl)) (fun _ _ _ _ _ => pts_nil) (fun _ _ _ _ _ => pe_use UN hr2 rfl pass0 (pa_cons (pv 0) pa_nil))))), ?_⟩
  refine ⟨(by show 2 ≤ sizeLine; decide), fun t nt => ⟨_, rfl, (by show 2 ≤ sizeLine; decide), fun e ne => ?_⟩⟩
  have s2 := new_same nt (HO.tup [.int 0, .int 1])
  have s3 := new_same ne (HO.lst [V.ref t, x])
  have sA := s2.trans s3
  have z0 : Nq K _ (.ref t) 0 := .at (K := K) (s3 _ _ (show _ = some (rT 0) from upd_same))
  have n3 := Nl.cons z0 (Nl.cons (nc.same sA) Nl.nil)
  have e3 : upd (upd H t (HO.tup [.int 0, .int 1])) e (HO.lst [V.ref t, x]) e = some (HO.lst [V.ref t, x]) := upd_same
  have b3 := hb.same sA
  have eB3 := ((hb.same s2).at ne).1
  have u3 : But B H (upd (upd H t (HO.tup [.int 0, .int 1])) e (HO.lst [V.ref t, x])) := But.same sA
  generalize upd (upd H t (HO.tup [.int 0, .int 1])) e (HO.lst [V.ref t, x]) = H3 at b3 u3 n3 e3
  clear sA z0
  refine ⟨_, rfl, _, _, rfl, rfl, _, _, rfl, ⟨by omega, by omega, by omega, by omega⟩, fun D nD => ?_⟩
  have DB := b3.at nD
  refine lc_range (lo := 2) (n := (((deg : Nat) : Int) + 1 - 2).toNat) (fun i H' => Bag (n + 40 - 3 * i) H' B p ∧ But B H3 H' ∧ ∃ ys rs, H' D = some (.lst ys) ∧ Nl K H' ys rs ∧ rs.length = i ∧ ∀ r ∈ rs, NumQ r) ⟨b3.put nD, But.new nD, [], [], upd_same, Nl.nil, rfl, fun _ h => nomatch h⟩ ?_ ?_
  · rintro i H' hi ⟨b', u', ys, rs, hD, ny, rl, br⟩
    have yl : ys.length = i := by rw [ny.1, rl]
    refine ⟨rfl, yesT ⟨_, rfl, n + 37 - 3 * i, B, p, rfl, b'.less (show n + 37 - 3 * i + 3 ≤ n + 40 - 3 * i by omega), fun H5 y r b5 u5 nr brr => ?_⟩⟩
    have hD5 := u5 _ _ DB.1 hD
    refine ⟨ys, hD5, small1000 (by omega), ?_, ?_, ys ++ [y], rs ++ [r], upd_same, Nl.snocD (ny.go b' (Go.of u5)) hD5 nr, by rw [List.length_append, rl]; rfl, ?_⟩
    · exact (b5.less (show n + 40 - 3 * (i + 1) ≤ n + 37 - 3 * i by omega)).upd DB.1 DB.2
    · intro b o hb he
      rw [upd_ne (fun z => by rw [z, nD] at he; cases he)]
      exact u5 _ _ hb (u' _ _ hb he)
    · intro t ht
      rcases List.mem_append.mp ht with ht | ht
      · exact br t ht
      · rw [List.mem_singleton.mp ht]; exact brr
  · rintro H4 ⟨b4, u4, ys, rs, hD, ny', rl, br'⟩
    have he4 := u4 _ _ eB3 e3
    have nx4 := n3.go b3 (Go.of u4)
    have yl : ys.length = deg - 1 := by rw [ny'.1, rl]; omega
    refine ⟨e, D, _, _, rfl, rfl, he4, hD, Nat.le_of_lt (small1000 (by show 2 + _ ≤ _; omega)), fun k nk => ?_⟩
    have s5 := new_same nk (HO.lst ([V.ref t, x] ++ ys))
    exact q _ _ rs ((b4.same s5).less (by omega)) ((u3.trans u4).trans (But.same s5)) ⟨k, _, rfl, upd_same, (nx4.app ny').same s5⟩ (by omega) br'
end
end Kx
end
section
set_option maxHeartbeats 4000000
namespace Kx
open PySem PySem.Spec PyProof.Rows L2 RZ
/-! ### like -/
structure KT (K : PySem.W.Frag) (a : Addr) (xs : List V) : Prop where
  ex : ∃ (o : Obj) (its : Array Value) (n : Nat), K.lookup a = some o ∧ o.cls = .type "tuple" ∧ o.data = .seq its n ∧ its.size ≤ sizeLine ∧ Vals xs its.toList
def TupAt (K : PySem.W.Frag) (H : Hp) (a : Addr) (xs : List V) : Prop := H a = some (.tup xs) ∨ KT K a xs
theorem TupAt.t {K : PySem.W.Frag} {H : Hp} {a : Addr} {xs : List V} (h : TupAt K H a xs) : SqT K H a xs := h.elim SqT.of fun k => .inr k.ex
theorem TupAt.ty {K : PySem.W.Frag} {H : Hp} {a : Addr} {xs : List V} (h : TupAt K H a xs) : TyX K H (.ref a) (.type "tuple") := h.elim (fun h => .base (.tup h)) fun k => by
  obtain ⟨o, its, n, h1, h2, _⟩ := k.ex
  exact .kTuple h1 h2
theorem TupAt.same {K : PySem.W.Frag} {H H' : Hp} {a : Addr} {xs : List V} (h : TupAt K H a xs) (s : Same H H') : TupAt K H' a xs := h.imp (s _ _) id
def Lk (K : PySem.W.Frag) : Nat → Hp → V → V → Prop
  | 0, H, v, u => u = v ∧ flatV v = true
  | n + 1, H, v, u => (u = v ∧ flatV v = true) ∨ ∃ (a b : Addr) (xs ys : List V), v = .ref a ∧ u = .ref b ∧ xs.length ≤ 60 ∧ Paired (Lk K n H) xs ys ∧
      ((H a = some (.lst xs) ∧ H b = some (.lst ys)) ∨ (TupAt K H a xs ∧ TupAt K H b ys))
section
variable {K : PySem.W.Frag} {H H' : Hp}
theorem Lk.same (s : Same H H') : ∀ {n : Nat} {v u : V}, Lk K n H v u → Lk K n H' v u
  | 0, _, _, h => h
  | n + 1, v, u, h => by
    rcases h with ⟨h1, h2⟩ | ⟨a, b, xs, ys, e1, e2, l, p, q⟩
    · exact .inl ⟨h1, h2⟩
    · exact .inr ⟨a, b, xs, ys, e1, e2, l, L2.Paired.mapP p fun _ _ z => Lk.same s z, q.imp (fun q => ⟨s _ _ q.1, s _ _ q.2⟩) fun q => ⟨q.1.same s, q.2.same s⟩⟩
theorem Lk.flat {v : V} (h : flatV v = true) : ∀ {n : Nat}, Lk K n H v v
  | 0 => ⟨rfl, h⟩
  | _ + 1 => .inl ⟨rfl, h⟩
theorem Lk.succ : ∀ {n : Nat} {v u : V}, Lk K n H v u → Lk K (n + 1) H v u
  | 0, _, _, h => .inl h
  | n + 1, _, _, h => by
    rcases h with h | ⟨a, b, xs, ys, e1, e2, l, p, q⟩
    · exact .inl h
    · exact .inr ⟨a, b, xs, ys, e1, e2, l, L2.Paired.mapP p fun _ _ z => Lk.succ z, q⟩
theorem Lk.lst {n : Nat} {a b : Addr} {xs ys : List V} (h1 : H a = some (.lst xs)) (h2 : H b = some (.lst ys)) (l : xs.length ≤ 60) (p : Paired (Lk K n H) xs ys) : Lk K (n + 1) H (.ref a) (.ref b) := .inr ⟨a, b, xs, ys, rfl, rfl, l, p, .inl ⟨h1, h2⟩⟩
theorem paired_flat {n : Nat} : ∀ {xs : List V}, (∀ x ∈ xs, flatV x = true) → Paired (Lk K n H) xs xs
  | [], _ => .nil
  | x :: xs, h => .cons (Lk.flat (h x List.mem_cons_self)) (paired_flat fun y hy => h y (List.mem_cons_of_mem _ hy))
theorem Nq.tup {v : V} {q : Rat} (h : Nq K H v q) : ∃ a, v = .ref a ∧ TupAt K H a [.int q.num, .int (q.den : Nat)] := by
  obtain ⟨a, e, h⟩ := h
  exact ⟨a, e, h.imp id fun k => ⟨k.ex⟩⟩
theorem Nq.lk {n : Nat} {v u : V} {q : Rat} (h : Nq K H v q) (h' : Nq K H u q) : Lk K (n + 1) H v u := by
  obtain ⟨a, rfl, h1⟩ := h.tup
  obtain ⟨b, rfl, h2⟩ := h'.tup
  exact .inr ⟨a, b, _, _, rfl, rfl, (by show 2 ≤ 60; decide), .cons (Lk.flat rfl) (.cons (Lk.flat rfl) .nil), .inr ⟨h1, h2⟩⟩
theorem Nl.pair {n : Nat} : ∀ {xs ys : List V} {qs : List Rat}, Nl K H xs qs → Nl K H ys qs → Paired (Lk K (n + 1) H) xs ys
  | [], [], [], _, _ => .nil
  | x :: xs, y :: ys, q :: qs, h, h' => .cons ((h.2 0 x q rfl rfl).lk (h'.2 0 y q rfl rfl)) (Nl.pair h.tail h'.tail)
  | [], _ :: _, [], _, h' => by cases h'.1
  | _ :: _, [], _, h, h' => by have e := h.1.trans h'.1.symm; cases e
  | [], _, _ :: _, h, _ => by cases h.1
  | _ :: _, _, [], h, _ => by cases h.1
theorem Ls.lk {n : Nat} {v u : V} {qs : List Rat} (h : Ls K H v qs) (h' : Ls K H u qs) (l : qs.length ≤ 60) : Lk K (n + 2) H v u := by
  obtain ⟨a, xs, rfl, h1, n1⟩ := h
  obtain ⟨b, ys, rfl, h2, n2⟩ := h'
  exact Lk.lst h1 h2 (by rw [n1.1]; exact l) (n1.pair n2)
end
theorem Pr_get {α β : Type} {F : α → β → Prop} : ∀ {l1 : List α} {l2 : List β} {i : Nat} {x : α}, Paired F l1 l2 → l1[i]? = some x → ∃ y, l2[i]? = some y ∧ F x y
  | _, _, _, _, .nil, h => by simp at h
  | _, _, 0, x, .cons (b := b) r _, h => ⟨b, rfl, by
    have e := Option.some.inj (show some _ = some x from by simpa using h)
    rw [← e]
    exact r⟩
  | _, _, i + 1, x, .cons _ t, h => by
    obtain ⟨y, h1, h2⟩ := Pr_get (i := i) (x := x) t (by simpa using h)
    exact ⟨y, by simpa using h1, h2⟩
theorem walk_zipT {K : PySem.W.Frag} {a b : Addr} {xs ys : List V} {n : Nat} (hn : n = min xs.length ys.length) : Walk (ItzT K a b) n (fun H => SqT K H a xs ∧ SqT K H b ys) (YPair (fun i => xs[i]?) (fun i => ys[i]?)) := by
  subst hn
  refine ⟨fun i H hi q => ⟨xs, ys, xs[i]'(by omega), ys[i]'(by omega), q.1, q.2, by simp [show i < xs.length by omega], by simp [show i < ys.length by omega]⟩, fun H q => ⟨xs, ys, q.1, q.2, by omega⟩, fun i H v H' hi q y => ?_⟩
  obtain ⟨T, x, z, h1, h2, h3, h4, h5⟩ := y
  exact ⟨T, x, z, h1, h2, h3, h4 xs q.1, h5 ys q.2⟩
def tyS : V → String
  | .non => "NoneType"
  | .bl _ => "bool"
  | .int _ => "int"
  | _ => "str"
theorem ty_flat {K : PySem.W.Frag} {H : Hp} {v : V} (h : flatV v = true) : TyX K H v (.type (tyS v)) := by
  cases v with
  | non => exact .base .non
  | bl b => exact .base (.bl b)
  | int i => exact .base (.int i)
  | str x => exact .base (.str x)
  | _ => cases h
theorem tyS_in : ∀ {v : V}, flatV v = true → tyS v ∈ ["NoneType", "bool", "int", "str"]
  | .non, _ => by simp [tyS]
  | .bl _, _ => by simp [tyS]
  | .int _, _ => by simp [tyS]
  | .str _, _ => by simp [tyS]
  | .byt _, h => by cases h
  | .flt _, h => by cases h
  | .ref _, h => by cases h
  | .ty _, h => by cases h
theorem kb_seq : ∀ s ∈ ["NoneType", "bool", "int", "str"], kitB s "list" = some false ∧ kitB s "tuple" = some false := by decide +kernel
theorem kb_flat : ∀ s ∈ ["NoneType", "bool", "int", "str"], (kitB s "bool").isSome ∧ (kitB s "str").isSome ∧ (kitB s "int").isSome := by decide +kernel
def spLike (K : PySem.W.Frag) (n : Nat) : Sp := fun vs H Q _ => ∃ (v u : V), vs = [v, u] ∧ Lk K n H v u ∧ ∀ H', Same H H' → Q (.bl true) H'
abbrev nLike : List Str := ["_law_found", "_law_due_here", "_law_part_a", "_law_part_b"]
section
variable {P : Program} {w : World} {K : PySem.W.Frag} {mg : Str → Option Value} {base : Heap} {f C S CF CO : Addr} {fd : FuncData}
theorem scLike : FnScope nLike ["_law_found", "_law_due_here"] (defScope L_same) := ⟨rfl, rfl, rfl, by decide +kernel, rfl, by decide +kernel, by decide +kernel⟩
theorem ok_like {n : Nat} (F : Fun K "_law_same" "_law_same" L_same f fd) (bL : Binds K fd ["_law_found", "_law_due_here"] []) (mL : mg "_law_same" = some (.ref f)) (G : ∀ n', n = n' + 1 → FnOk P w K mg base CX0 (n + 1) f fd ["_law_found", "_law_due_here"] (spLike K n'))
    (mI : mg "isinstance" = none) (ml : mg "list" = none) (mt : mg "tuple" = none) (mb : mg "bool" = none) (ms : mg "str" = none) (mi : mg "int" = none) (mn : mg "len" = none) (mz : mg "zip" = none) (ma : mg "all" = none) :
    FnOk P w K mg base CX0 (n + 2) f fd ["_law_found", "_law_due_here"] (spLike K n) := by
  refine F.ok scLike (fun vs H Q E h => ?_) (fun cdv A outer s H vs Q E hr h => ?_)
  · obtain ⟨v, u, rfl, _⟩ := h
    rfl
  obtain ⟨v, u, rfl, tv, q⟩ := h
  have flat : flatV v = true → u = v → ∃ t, PSs (cxOf CX0 P w K mg base nLike "_law_same" (defScope L_same) f cdv A outer s H E).nox (defBody L_same) t ∧ t { nx := fun _ H' => Q .non H', rt := Q } (L2.start nLike [v, u]) H := fun hv hu => by
    subst hu
    obtain ⟨k1, k2⟩ := kb_seq _ (tyS_in hv)
    obtain ⟨k3, k4, k5⟩ := kb_flat _ (tyS_in hv)
    obtain ⟨x3, k3⟩ := Option.isSome_iff_exists.mp k3
    obtain ⟨x4, k4⟩ := Option.isSome_iff_exists.mp k4
    obtain ⟨x5, k5⟩ := Option.isSome_iff_exists.mp k5
    refine ⟨_, pss_cons (ps_if (pt_val (pe_callB call_isiT rfl mI (by decide +kernel) (pa_cons (pv 1) (pa_cons (pe_tup (pa_cons (pe_bltn rfl ml boot_list (rel_ty _)) (pa_cons (pe_bltn rfl mt boot_tuple (rel_ty _)) pa_nil))) pa_nil)))) (pss_cons ps_never (pss_one ps_never)) pss_nil)
      (pss_cons (ps_if (PW.pt (pw_or (pt_cmpR op_isN (pv 1) pe_non (nomark _)) (pw_or1 (pt_cmpR op_isN (pv 0) pe_non (nomark _))))) (pss_one (ps_ret (pe_and (pe_cmpR op_isN (pv 1) pe_non (nomark _)) (pe_one (pe_cmpR op_isN (pv 0) pe_non (nomark _)))))) pss_nil)
      (pss_cons (ps_if (PW.pt (pw_or (pt_val (pe_callB call_isiT rfl mI (by decide +kernel) (pa_cons (pv 0) (pa_cons (pe_tup (pa_cons (pe_bltn rfl ml boot_list (rel_ty _)) (pa_cons (pe_bltn rfl mt boot_tuple (rel_ty _)) pa_nil))) pa_nil)))) (pw_or1 (pt_cmpR op_ne (pe_callB call_isi rfl mI (by decide +kernel) (pa_cons (pv 0) (pa_cons (pe_bltn rfl mb boot_bool (rel_ty _)) pa_nil))) (pe_callB call_isi rfl mI (by decide +kernel) (pa_cons (pv 1) (pa_cons (pe_bltn rfl mb boot_bool (rel_ty _)) pa_nil))) (nomark _))))) (pss_one ps_never) pss_nil)
      (pss_cons (ps_if (PW.pt (pw_or (pt_cmpR op_ne (pe_callB call_isi rfl mI (by decide +kernel) (pa_cons (pv 0) (pa_cons (pe_bltn rfl ms boot_str (rel_ty _)) pa_nil))) (pe_callB call_isi rfl mI (by decide +kernel) (pa_cons (pv 1) (pa_cons (pe_bltn rfl ms boot_str (rel_ty _)) pa_nil))) (nomark _)) (pw_or1 (pt_cmpR op_ne (pe_callB call_isi rfl mI (by decide +kernel) (pa_cons (pv 0) (pa_cons (pe_bltn rfl mi boot_int (rel_ty _)) pa_nil))) (pe_callB call_isi rfl mI (by decide +kernel) (pa_cons (pv 1) (pa_cons (pe_bltn rfl mi boot_int (rel_ty _)) pa_nil))) (nomark _))))) (pss_one ps_never) pss_nil)
      (pss_one (ps_ret (pe_cmpR op_eq (pv 0) (pv 1) (nomark _))))))), ?_⟩
    refine ⟨_, rfl, (by show 2 ≤ sizeLine; decide), fun p np => ?_⟩
    have g1 := new_same np (.tup [.ty "list", .ty "tuple"])
    refine ⟨u, p, _, .type (tyS u), _, false, rfl, upd_same, .cons (.ty _) (.cons (.ty _) .nil), ty_flat hv, kit2 k1 k2 rfl, _, rfl, iteF ?_⟩
    generalize upd H p (.tup [.ty "list", .ty "tuple"]) = H1 at g1
    by_cases e : u = .non
    · subst e
      refine ⟨_, rfl, rfl, _, rfl, iteT ?_⟩
      refine iteT ⟨_, rfl, rfl, _, rfl, iteT ⟨_, rfl, rfl, q H1 g1⟩⟩
    · refine ⟨_, rfl, rfl, _, rfl, ?_⟩
      rw [decide_eq_false e]
      refine iteF ⟨_, rfl, rfl, _, rfl, ?_⟩
      rw [decide_eq_false e]
      refine iteF ?_
      refine ⟨_, rfl, (by show 2 ≤ sizeLine; decide), fun p2 np2 => ?_⟩
      have g2 := g1.trans (new_same np2 (.tup [.ty "list", .ty "tuple"]))
      refine ⟨u, p2, _, .type (tyS u), _, false, rfl, upd_same, .cons (.ty _) (.cons (.ty _) .nil), ty_flat hv, kit2 k1 k2 rfl, _, rfl, iteF ?_⟩
      generalize upd H1 p2 (.tup [.ty "list", .ty "tuple"]) = H2 at g2
      refine ⟨_, rfl, u, _, _, _, x3, rfl, .ty _, ty_flat hv, kit_ty k3, _, rfl, u, _, _, _, x3, rfl, .ty _, ty_flat hv, kit_ty k3, rfl, _, rfl, ?_⟩
      refine iteNS rfl ?_
      refine ⟨_, rfl, u, _, _, _, x4, rfl, .ty _, ty_flat hv, kit_ty k4, _, rfl, u, _, _, _, x4, rfl, .ty _, ty_flat hv, kit_ty k4, rfl, _, rfl, ?_⟩
      refine iteNS rfl ?_
      refine ⟨_, rfl, u, _, _, _, x5, rfl, .ty _, ty_flat hv, kit_ty k5, _, rfl, u, _, _, _, x5, rfl, .ty _, ty_flat hv, kit_ty k5, rfl, _, rfl, ?_⟩
      refine iteNS rfl ?_
      have hs : scal u u = true := by
        cases u <;> first | rfl | cases hv
      refine ⟨_, rfl, _, rfl, hs, ?_⟩
      rw [decide_eq_true rfl]
      exact q H2 g2
  have base0 : (u = v ∧ flatV v = true) → ∃ t, PSs (cxOf CX0 P w K mg base nLike "_law_same" (defScope L_same) f cdv A outer s H E).nox (defBody L_same) t ∧ t { nx := fun _ H' => Q .non H', rt := Q } (L2.start nLike [v, u]) H := fun h => flat h.2 h.1
  cases n with
  | zero => exact base0 tv
  | succ n =>
    rcases tv with h0 | ⟨a, b, xs, ys, rfl, rfl, l, pr, hh⟩
    · exact base0 h0
    have GL := G n rfl
    have le : xs.length = ys.length := pr.length
    have el : ∀ (i : Nat) (y z : V), xs[i]? = some y → ys[i]? = some z → ∀ H', Same H H' → Lk K n H' y z := fun i y z hy hz H' g => by
      obtain ⟨z', h1, h2⟩ := Pr_get pr hy
      rw [hz] at h1
      rw [← Option.some.inj h1] at h2
      exact Lk.same g h2
    rcases hh with ⟨h1, h2⟩ | ⟨h1, h2⟩
    · refine ⟨_, pss_cons (ps_if (pt_val (pe_callB call_isiT rfl mI (by decide +kernel) (pa_cons (pv 1) (pa_cons (pe_tup (pa_cons (pe_bltn rfl ml boot_list (rel_ty _)) (pa_cons (pe_bltn rfl mt boot_tuple (rel_ty _)) pa_nil))) pa_nil))))
          (pss_cons (ps_if (PW.pt (pw_or (pt_cmpR op_ne (pe_callB call_isi rfl mI (by decide +kernel) (pa_cons (pv 0) (pa_cons (pe_bltn rfl ml boot_list (rel_ty _)) pa_nil))) (pe_callB call_isi rfl mI (by decide +kernel) (pa_cons (pv 1) (pa_cons (pe_bltn rfl ml boot_list (rel_ty _)) pa_nil))) (nomark _)) (pw_or1 (pt_cmpR op_ne (pe_callB call_isi rfl mI (by decide +kernel) (pa_cons (pv 0) (pa_cons (pe_bltn rfl mt boot_tuple (rel_ty _)) pa_nil))) (pe_callB call_isi rfl mI (by decide +kernel) (pa_cons (pv 1) (pa_cons (pe_bltn rfl mt boot_tuple (rel_ty _)) pa_nil))) (nomark _))))) (pss_one ps_never) pss_nil)
          (pss_one (ps_ret (pe_and (pe_cmpR op_eq (pe_callB call_len_seq rfl mn PySem.boot_len (pa_cons (pv 0) pa_nil)) (pe_callB call_len_seq rfl mn PySem.boot_len (pa_cons (pv 1) pa_nil)) (nomark _))
            (pe_one (pe_callB (cr_all rfl) rfl ma (by decide +kernel) (pa_cons (pe_lc (own := [("_law_part_a", 2), ("_law_part_b", 3)]) (g := gTup K 2 (gCons (gName 2) (gCons (gName 3) gNil))) (tt := tYes) rfl scLike.nd (pi_zipA rfl mz (pa_cons (pv 0) (pa_cons (pv 1) pa_nil))) (blkOk_by (N := nLike) (sc := defScope L_same) (by decide +kernel))
              (fun _ _ _ _ _ => pg_tup rfl (pgs_cons (pg_name (i := 2) scLike.nd rfl (Or.inl rfl)) (pgs_cons (pg_name (i := 3) scLike.nd rfl (Or.inl rfl)) pgs_nil))) (fun _ _ _ _ _ => pts_nil) (fun _ _ _ _ _ => pe_call GL hr rfl mL F.kp bL .nil pass0 (pa_cons (pv 2) (pa_cons (pv 3) pa_nil)))) pa_nil))))))) pss_nil)
        (pss_cons ps_never (pss_cons ps_never (pss_cons ps_never (pss_one ps_never)))), ?_⟩
      refine ⟨_, rfl, (by show 2 ≤ sizeLine; decide), fun p np => ?_⟩
      have g1 := new_same np (.tup [.ty "list", .ty "tuple"])
      refine ⟨.ref b, p, _, .type "list", _, true, rfl, upd_same, .cons (.ty _) (.cons (.ty _) .nil), .base (.lst (g1 _ _ h2)), kit2 kb_l.1 kb_l.2.1 rfl, _, rfl, ?_⟩
      refine iteT ?_
      generalize upd H p (.tup [.ty "list", .ty "tuple"]) = H1 at g1
      have ta : TyX K H1 (.ref a) (.type "list") := .base (.lst (g1 _ _ h1))
      have tb : TyX K H1 (.ref b) (.type "list") := .base (.lst (g1 _ _ h2))
      refine ⟨_, rfl, .ref a, _, _, _, _, rfl, .ty _, ta, kit_ty kb_l.1, _, rfl, .ref b, _, _, _, _, rfl, .ty _, tb, kit_ty kb_l.1, rfl, _, rfl, iteNS rfl ?_⟩
      refine ⟨_, rfl, .ref a, _, _, _, _, rfl, .ty _, ta, kit_ty kb_l.2.1, _, rfl, .ref b, _, _, _, _, rfl, .ty _, tb, kit_ty kb_l.2.1, rfl, _, rfl, iteNS rfl ?_⟩
      refine ⟨_, rfl, a, xs, rfl, .inl (SqL.of (g1 _ _ h1)), _, rfl, b, ys, rfl, .inl (SqL.of (g1 _ _ h2)), rfl, _, rfl, ?_⟩
      rw [decide_eq_true (show V.int (xs.length : Nat) = V.int (ys.length : Nat) by rw [le])]
      refine iteT ⟨_, rfl, _, rfl, a, b, xs, ys, rfl, .inl ⟨SqL.of (g1 _ _ h1), SqL.of (g1 _ _ h2), fun D nD => ?_⟩⟩
      refine lc_it (walk_zip (K := K) (a := a) (b := b) (xs := xs) (ys := ys) (n := xs.length) (by omega)) (fun i H' => Same H1 H' ∧ H' D = some (.lst ((List.replicate i true).map V.bl))) ⟨new_same nD _, upd_same⟩ (fun i H' _ h => ⟨SqL.of (h.1 _ _ (g1 _ _ h1)), SqL.of (h.1 _ _ (g1 _ _ h2))⟩) ?_ ?_
      · rintro i x H' H5 hi ⟨g, hD⟩ ⟨T, y, z, rfl, hT, rfl, hy, hz⟩
        refine ⟨T, [y, z], rfl, SqT.of upd_same, rfl, y, [z], rfl, z, [], rfl, rfl, ?_⟩
        refine ⟨rfl, ?_⟩
        refine yesT ?_
        have g5 : Same H1 (upd H' T (.tup [y, z])) := g.trans (new_same hT _)
        have tyz := el i y z hy hz _ (g1.trans g5)
        refine ⟨_, rfl, _, rfl, y, z, rfl, tyz, fun H6 g6 => ⟨(List.replicate i true).map V.bl, ?_, ?_, ?_, ?_⟩⟩
        · refine g6 _ _ ?_
          rw [upd_ne (ne_of_none hD hT)]
          exact hD
        · rw [List.length_map, List.length_replicate]
          exact small1000 (by omega)
        · exact fun c o h => by rw [upd_ne (ne_of_none h nD)]; exact g6 _ _ (g5 _ _ h)
        · rw [upd_same, List.replicate_succ', List.map_append]
          rfl
      · rintro H' ⟨g, hD⟩
        refine ⟨D, List.replicate xs.length true, rfl, SqL.of hD, ?_⟩
        have e : (List.replicate xs.length true).all id = true := by simp
        rw [e]
        exact q H' (g1.trans g)
    · refine ⟨_, pss_cons (ps_if (pt_val (pe_callB call_isiT rfl mI (by decide +kernel) (pa_cons (pv 1) (pa_cons (pe_tup (pa_cons (pe_bltn rfl ml boot_list (rel_ty _)) (pa_cons (pe_bltn rfl mt boot_tuple (rel_ty _)) pa_nil))) pa_nil))))
          (pss_cons (ps_if (PW.pt (pw_or (pt_cmpR op_ne (pe_callB call_isi rfl mI (by decide +kernel) (pa_cons (pv 0) (pa_cons (pe_bltn rfl ml boot_list (rel_ty _)) pa_nil))) (pe_callB call_isi rfl mI (by decide +kernel) (pa_cons (pv 1) (pa_cons (pe_bltn rfl ml boot_list (rel_ty _)) pa_nil))) (nomark _)) (pw_or1 (pt_cmpR op_ne (pe_callB call_isi rfl mI (by decide +kernel) (pa_cons (pv 0) (pa_cons (pe_bltn rfl mt boot_tuple (rel_ty _)) pa_nil))) (pe_callB call_isi rfl mI (by decide +kernel) (pa_cons (pv 1) (pa_cons (pe_bltn rfl mt boot_tuple (rel_ty _)) pa_nil))) (nomark _))))) (pss_one ps_never) pss_nil)
          (pss_one (ps_ret (pe_and (pe_cmpR op_eq (pe_callB call_len_seq rfl mn PySem.boot_len (pa_cons (pv 0) pa_nil)) (pe_callB call_len_seq rfl mn PySem.boot_len (pa_cons (pv 1) pa_nil)) (nomark _))
            (pe_one (pe_callB (cr_all rfl) rfl ma (by decide +kernel) (pa_cons (pe_lc (own := [("_law_part_a", 2), ("_law_part_b", 3)]) (g := gTup K 2 (gCons (gName 2) (gCons (gName 3) gNil))) (tt := tYes) rfl scLike.nd (pi_zipA rfl mz (pa_cons (pv 0) (pa_cons (pv 1) pa_nil))) (blkOk_by (N := nLike) (sc := defScope L_same) (by decide +kernel))
              (fun _ _ _ _ _ => pg_tup rfl (pgs_cons (pg_name (i := 2) scLike.nd rfl (Or.inl rfl)) (pgs_cons (pg_name (i := 3) scLike.nd rfl (Or.inl rfl)) pgs_nil))) (fun _ _ _ _ _ => pts_nil) (fun _ _ _ _ _ => pe_call GL hr rfl mL F.kp bL .nil pass0 (pa_cons (pv 2) (pa_cons (pv 3) pa_nil)))) pa_nil))))))) pss_nil)
        (pss_cons ps_never (pss_cons ps_never (pss_cons ps_never (pss_one ps_never)))), ?_⟩
      refine ⟨_, rfl, (by show 2 ≤ sizeLine; decide), fun p np => ?_⟩
      have g1 := new_same np (.tup [.ty "list", .ty "tuple"])
      refine ⟨.ref b, p, _, .type "tuple", _, true, rfl, upd_same, .cons (.ty _) (.cons (.ty _) .nil), (h2.same g1).ty, kit2 kb_l.2.2.1 kb_l.2.2.2 rfl, _, rfl, ?_⟩
      refine iteT ?_
      generalize upd H p (.tup [.ty "list", .ty "tuple"]) = H1 at g1
      have ta : TyX K H1 (.ref a) (.type "tuple") := (h1.same g1).ty
      have tb : TyX K H1 (.ref b) (.type "tuple") := (h2.same g1).ty
      refine ⟨_, rfl, .ref a, _, _, _, _, rfl, .ty _, ta, kit_ty kb_l.2.2.1, _, rfl, .ref b, _, _, _, _, rfl, .ty _, tb, kit_ty kb_l.2.2.1, rfl, _, rfl, iteNS rfl ?_⟩
      refine ⟨_, rfl, .ref a, _, _, _, _, rfl, .ty _, ta, kit_ty kb_l.2.2.2, _, rfl, .ref b, _, _, _, _, rfl, .ty _, tb, kit_ty kb_l.2.2.2, rfl, _, rfl, iteNS rfl ?_⟩
      refine ⟨_, rfl, a, xs, rfl, .inr ((h1.same g1).t), _, rfl, b, ys, rfl, .inr ((h2.same g1).t), rfl, _, rfl, ?_⟩
      rw [decide_eq_true (show V.int (xs.length : Nat) = V.int (ys.length : Nat) by rw [le])]
      refine iteT ⟨_, rfl, _, rfl, a, b, xs, ys, rfl, .inr ⟨(h1.same g1).t, (h2.same g1).t, fun D nD => ?_⟩⟩
      refine lc_it (walk_zipT (K := K) (a := a) (b := b) (xs := xs) (ys := ys) (n := xs.length) (by omega)) (fun i H' => Same H1 H' ∧ H' D = some (.lst ((List.replicate i true).map V.bl))) ⟨new_same nD _, upd_same⟩ (fun i H' _ h => ⟨((h1.same g1).same h.1).t, ((h2.same g1).same h.1).t⟩) ?_ ?_
      · rintro i x H' H5 hi ⟨g, hD⟩ ⟨T, y, z, rfl, hT, rfl, hy, hz⟩
        refine ⟨T, [y, z], rfl, SqT.of upd_same, rfl, y, [z], rfl, z, [], rfl, rfl, ?_⟩
        refine ⟨rfl, ?_⟩
        refine yesT ?_
        have g5 : Same H1 (upd H' T (.tup [y, z])) := g.trans (new_same hT _)
        have tyz := el i y z hy hz _ (g1.trans g5)
        refine ⟨_, rfl, _, rfl, y, z, rfl, tyz, fun H6 g6 => ⟨(List.replicate i true).map V.bl, ?_, ?_, ?_, ?_⟩⟩
        · refine g6 _ _ ?_
          rw [upd_ne (ne_of_none hD hT)]
          exact hD
        · rw [List.length_map, List.length_replicate]
          exact small1000 (by omega)
        · exact fun c o h => by rw [upd_ne (ne_of_none h nD)]; exact g6 _ _ (g5 _ _ h)
        · rw [upd_same, List.replicate_succ', List.map_append]
          rfl
      · rintro H' ⟨g, hD⟩
        refine ⟨D, List.replicate xs.length true, rfl, SqL.of hD, ?_⟩
        have e : (List.replicate xs.length true).all id = true := by simp
        rw [e]
        exact q H' (g1.trans g)
end
end Kx
end
section
set_option maxHeartbeats 4000000
namespace L2
open PySem PySem.Spec PyProof.Rows
/-! ### the caught exception, read where it is pinned -/
section
variable {X : Cx} {a C : Addr} {oe : Obj} {cls : Value} {d : Option Addr} {e : Expr} {te : TE} {pos : Pos} {n : Str}
theorem pe_xfP (hp : (a, oe) ∈ X.pn) (T : XC X.K C) (hno : PySem.W.findIn X.K (.ref C) n = some none) (hz : Zc cls d oe) (hf : ∃ vs, oe.data = .fields vs) (he : PE X e te) (hb : attributeBase e n X.env (eval e X.env) = eval e X.env := by rfl) :
    PE X (.Attribute e n pos) (tXf a cls d C n te) := by
  refine ⟨fun pins s σ H Q I h => ?_⟩
  refine attr_of hb (thn (he.run pins s σ H _ I h) fun u s1 hh => ?_)
  obtain ⟨x, H1, I1, rx, ex, ec, dd, fs, v, ed, ea, l, q⟩ := hh
  subst ex
  obtain rfl : u = Value.ref a := rx
  subst ec
  subst ed
  obtain ⟨ha, _⟩ := I1.pin (a, oe) (List.mem_append_left _ hp)
  obtain ⟨vs, hd⟩ := hf
  have hx : ObjOk X.prog X.w H1 s1.heap dd (.xd fs) := I1.hok dd _ ea
  obtain ⟨mA, hns, hr⟩ := hx
  obtain ⟨od, ho, hl⟩ := lookIn_ns hns
  obtain ⟨u, hu, ru⟩ := RelO.some_of (v := v) (o := mA n) (by rw [← l]; exact hr n)
  have J : PySem.W.InstAt s1.heap a oe C (some od) := ⟨ha, hz.1, by unfold PySem.W.notCls; rw [hd] <;> rfl, by rw [hz.2]; exact ho⟩
  exact HandSPX.exc_get I1.kIn J T.ga T.gg T.ex (PySem.W.findObj_own T.hd hno rfl (by rw [hl, hu])) (handed_of ru) ⟨v, H1, I1.tok _, ru, q⟩
/-- isinstance(e, c), e the exception pinned at a, with its dict -/
def rIsP (K : PySem.W.Frag) (D a dd : Addr) : List V → Hp → VK → Prop := fun xs H Q => ∃ (c : V) (cv : Value) (b : Bool) (fs : List (Str × V)), xs = [.ref a, c] ∧ H dd = some (.xd fs) ∧ (∀ u, RelV c u → u = cv) ∧ PySem.W.kitOne K (.ref D) cv = some b ∧ Q (.bl b) H
theorem call_isP {D dd : Addr} (hp : (a, oe) ∈ X.pn) (T : XC X.K D) (hz : Zc (.ref D) (some dd) oe) (hf : ∃ vs, oe.data = .fields vs) : CallR X (.builtin "isinstance") (rIsP X.K D a dd) := by
  intro pins s σ H xs us Q I r h
  obtain ⟨c, cv, b, fs, rfl, ea, hcv, e, q⟩ := h
  cases r with
  | cons rx rr =>
    cases rr with
    | cons rt rr =>
      cases rr
      cases rx
      have ec := hcv _ rt
      subst ec
      obtain ⟨hget, _⟩ := I.pin (a, oe) (List.mem_append.mpr (.inl hp))
      obtain ⟨vs, hv⟩ := hf
      have hx : ObjOk X.prog X.w H s.heap dd (.xd fs) := I.hok dd _ ea
      obtain ⟨mA, hns, hr⟩ := hx
      obtain ⟨od, ho, hl⟩ := lookIn_ns hns
      have J : PySem.W.InstAt s.heap a oe D (some od) := ⟨hget, hz.1, by unfold PySem.W.notCls; rw [hv] <;> rfl, by rw [hz.2]; exact ho⟩
      exact PySem.W.kia_one (PySem.W.kitx_exc T.cl T.ga T.gg T.ex T.ha T.hn T.ht T.hm) I.kIn J e (fun z => nomatch z) fun tk => ⟨.bl b, H, I.tok tk, rfl, q⟩
end
/-! ### a def that is handed the caught exception, called in the suite -/
structure FnP (P : Program) (w : World) (K : PySem.W.Frag) (mg : Str → Option Value) (base : Heap) (CX : CXT) (k : Nat) (f : Addr) (fd : FuncData) (ps : List Str) (sp : Addr → Value → Option Addr → Sp) : Prop where
  len : ∀ a cls d vs H Q E, sp a cls d vs H Q E → vs.length = ps.length
  run : ∀ (A : Around) (outer : List Env) (s : Shared) (H : Hp) (args : Args) (us : List Value) (vs : List V) (Q : VK) (E : XK) (a : Addr) (oe : Obj) (cls : Value) (d : Option Addr), L2H.RoomH k A → Zc cls d oe → (∃ vs, oe.data = .fields vs) → L2H.PinOk outer H s (a, oe) → Env0 P w K mg base A outer s H → BindsTo s fd args (ps.zip us) → Vals vs us → sp a cls d vs H Q E →
    codeAny (model P w) A (.call (.ref f) args) (CR CX outer P w H s Q E) s
/-- .. by its body -/
theorem fn_ofP {CX : CXT} {P : Program} {w : World} {K : PySem.W.Frag} {mg : Str → Option Value} {base : Heap} {k : Nat} {x q : Str} {st : Stmt} {f : Addr} {fd : FuncData} {N ps : List Str} {sp : Addr → Value → Option Addr → Sp} (F : Fun K x q st f fd) (S : FnScope N ps (defScope st))
    (len : ∀ a cls d vs H Q E, sp a cls d vs H Q E → vs.length = ps.length)
    (hbody : ∀ (cdv : Value) (A : Around) (outer : List Env) (s : Shared) (H : Hp) (vs : List V) (Q : VK) (E : XK) (a : Addr) (oe : Obj) (cls : Value) (d : Option Addr), Zc cls d oe → (∃ vs, oe.data = .fields vs) → L2H.RoomH k (A.deeper (envOfC q (defScope st) s.heap.objs.size f cdv)) → sp a cls d vs H Q E →
      ∃ t, PSs (L2H.cxH CX P w K mg base N q (defScope st) f cdv A outer s H E (a, oe)) (defBody st) t ∧ t { nx := fun _ H' => Q .non H', rt := Q } (L2.start N vs) H) :
    FnP P w K mg base CX (k + 1) f fd ps sp := by
  obtain ⟨oc, od, kV, doc, pm, an, cdv, ct, osl, rfl, lk, hcd⟩ := F.ex
  refine ⟨len, fun A outer s H args us vs Q E a oe cls d hr hz hf hpin e0 hb r hsp => ?_⟩
  have hl := len _ _ _ _ _ _ _ hsp
  have KX : K.In s.heap := e0.mod.kin.keeps fun b o e => (e0.bs b o e).1
  have lim : s.heap.NoLimit := e0.mod.nolimit.keeps fun b o e => (e0.bs b o e).1
  have hkind : ∀ y ∈ ps.zip us, (defScope st).names.lookup y.1 = some .local ∨ ((defScope st).names.lookup y.1 = some .cell ∧ ((cellsFrom (s.heap.objs.size + 1) (defScope st).names []).lookup y.1).isSome = true) := fun ⟨n, v⟩ hy => by
    rcases S.par n (List.of_mem_zip hy).1 with q | q
    · exact .inl q
    · exact .inr ⟨q, PySem.W.cellsFrom_some _ _ _ (.inl q)⟩
  refine codeAny_call_function hr.depth (KX _ _ lk) rfl S.co S.gen rfl (PySem.W.codeRec_of KX hcd) (hb _ _ _ _ ?_)
  refine wpAny_newFunctionEnv_cells S.kind hkind fun env he s1 x => ?_
  subst he
  refine ⟨lim.keeps x.toInCall.keep, codeAny_func ?_⟩
  obtain ⟨t, ht, hq⟩ := hbody cdv A outer s H vs Q E a oe cls d hz hf (hr.deeper _) hsp
  have I : Inv (L2H.cxH CX P w K mg base N q (defScope st) f cdv A outer s H E (a, oe)) [] (L2.start N vs) H s1 := L2H.inv_startH S hpin e0 hl r x
  refine wpAny_mono (ht.run [] s1 (L2.start N vs) H _ I hq) (fun fl s' hs => ?_) fun e s' hs => hs
  have fin : ∀ {σ' : St} {H' : Hp} {v : V} {u : Value}, Inv (L2H.cxH CX P w K mg base N q (defScope st) f cdv A outer s H E (a, oe)) [] σ' H' s' → RelV v u → Q v H' → CE outer P w H s Q u s' :=
    fun {σ' H' v u} J rv q => ⟨v, H', J.os, J.bare, J.base, J.hok, rv, q⟩
  cases fl with
  | ret u =>
    obtain ⟨v, σ', H', J, rv, q⟩ := hs
    exact fin J rv q
  | next =>
    obtain ⟨σ', H', J, q⟩ := hs
    exact fin (v := V.non) (u := Value.none) J rfl q
  | brk =>
    obtain ⟨_, _, _, q⟩ := hs
    exact False.elim q
  | cont =>
    obtain ⟨_, _, _, q⟩ := hs
    exact False.elim q
/-- f(e, ..) in the suite -/
def tCallP (a : Addr) (cls : Value) (d : Option Addr) (sp : Addr → Value → Option Addr → Sp) (t : TA) : TE := fun σ H Q => t σ H fun vs H1 => sp a cls d vs H1 Q (fun _ _ _ => False)
section
variable {X : Cx} {k : Nat} {f : Addr} {fd : FuncData} {ps : List Str} {sp : Addr → Value → Option Addr → Sp} {x : Str} {q pos : Pos} {e : Expr} {es : List Expr} {t : TA} {a : Addr} {oe : Obj} {cls : Value} {d : Option Addr}
theorem pe_callP (hp : (a, oe) ∈ X.pn) (hz : Zc cls d oe) (hf : ∃ vs, oe.data = .fields vs) (F : FnP X.prog X.w X.K X.mg X.base C8.CX0 k f fd ps sp) (hr : L2H.RoomH k X.A) (hg : Gl X x) (hm : X.mg x = some (.ref f)) (hk : PySem.W.keepIn X.K (.ref f) = true) (hb : Binds X.K fd ps [])
    (ha : PA X (e :: es) t) (hdb : (x == ("__debug__" : Str)) = false := by decide) (he : starEach (e :: es) X.env = (false, eval e X.env) :: starEach es X.env := by rfl) (hpl : (backTo pos (starEach es X.env)).any (·.1) = false := by rfl) :
    PE X (.Call (.Name x q) (e :: es) [] pos) (tCallP a cls d sp t) := by
  refine ⟨fun pins s σ H Q I h => ?_⟩
  refine wpAny_Call_Name_kw (ld_glob I hg hm ?_ hdb)
  refine PySem.W.callWith_K (h₀ := X.base) I.ok.mod.kin hk (thn (ha.run pos pins s σ H _ I h) fun us s1 ⟨vs, H1, I1, r, q⟩ => ⟨I1.kIn, ?_⟩) he hpl
  have hl : us.length = ps.length := by rw [← r.length]; exact F.len _ _ _ _ _ _ _ q
  have b := hb s1 us I1.kIn (by rw [List.append_nil]; exact hl)
  rw [List.append_nil] at b
  have P1 := I1.pin (a, oe) (List.mem_append_left _ hp)
  have hpin : L2H.PinOk X.stack H1 s1 (a, oe) := ⟨P1.1, P1.2.1, fun hm => (List.mem_cons.mp (I1.stkSub a hm)).elim P1.2.2.1 P1.2.2.2.1, P1.2.2.2.2⟩
  refine wpAny_call (codeAny_mono (F.run X.A X.stack s1 H1 ⟨us, []⟩ us vs Q _ a oe cls d hr hz hf hpin I1.env0 b r q) fun r s' hq => ?_)
  cases r with
  | error e => exact hq.elim
  | ok fl =>
    cases fl with
    | ret u => exact I1.after hq
    | next => exact False.elim hq
    | brk => exact False.elim hq
    | cont => exact False.elim hq
end
end L2
end
section
set_option maxHeartbeats 4000000
namespace L2
open PySem PySem.Spec PyProof.Rows
/-! ### several clauses «except C as n» -/
abbrev Hd3 : Type := Value × Nat × (Addr → Value → Option Addr → TS)
def wManyAs (K : PySem.W.Frag) (Wout : WX) (D : Ends) : List Hd3 → WX
  | [] => Wout
  | (c, i, ts) :: r => fun cls d σ H => ∃ b, PySem.W.exmOne K cls c = some b ∧ (b = true → ∀ a, H a = none → ts a cls d { nx := fun σ' H' => D.nx (σ'.set i none) H', rt := D.rt, bk := fun σ' H' => D.bk (σ'.set i none) H', ct := fun σ' H' => D.ct (σ'.set i none) H' } (σ.set i (some (.ref a))) H) ∧
      (b = false → wManyAs K Wout D r cls d σ H)
inductive HdsAs (X : Cx) : List ExceptHandler → List Hd3 → Prop
  | nil : HdsAs X [] []
  | cons {x n : Str} {c : Value} {i : Nat} {ts : Addr → Value → Option Addr → TS} {b₀ : Stmt} {suite : List Stmt} {np pos' : Pos} {hds : List ExceptHandler} {l : List Hd3} (hi : X.N[i]? = some n) (hln : X.env.kindOf n = some .local) (hc : Names X x c)
      (hsu : ∀ (a : Addr) (oe : Obj) (cls : Value) (d : Option Addr) (pn : List (Addr × Obj)), Zc cls d oe → (∃ vs, oe.data = .fields vs) → PSs (X.suite a ((a, oe) :: pn)) (b₀ :: suite) (ts a cls d)) (r : HdsAs X hds l) :
      HdsAs X (.ExceptHandler (some (.Name x np)) (some n) (b₀ :: suite) pos' :: hds) ((c, i, ts) :: l)
section
variable {X : Cx} {body : List Stmt} {h₀ : ExceptHandler} {hds : List ExceptHandler} {l : List Hd3} {pos : Pos} {tb : WX → TS} {Wout : WX}
theorem ps_try_manyAs (hs : X.stack = X.env :: X.outer) (hf : X.env.frame = some X.env.locals) (hN : X.N.Nodup) (tk : Takes X Wout)
    (hb : ∀ (W : WX) (pn : List (Addr × Obj)) (xe : Value → Shared → Prop), Takes (X.tr pn xe) W → PassesOwn (model X.prog X.w) X.A X.env xe → PSs (X.tr pn xe) body (tb W))
    (hh : HdsAs X (h₀ :: hds) l) : PS X (.Try body (h₀ :: hds) [] [] pos) (fun D σ H => tb (wManyAs X.K Wout D l) D σ H) := by
  refine ⟨fun pins s σ H D I h => ?_⟩
  have ok := I.ok
  have hfr : X.A.frames = some (X.env :: X.outer) := by rw [ok.frames, hs]
  refine wpAny_Try_except ?_
  refine wpAny_mono ((hb (wManyAs X.K Wout D l) (X.pn ++ pins) (fun e s₁ => wpAny (model X.prog X.w) X.A (noteFrame e X.env) (fun _ s₂ => wpAny (model X.prog X.w) X.A (setFlight e none) (fun _ s₃ =>
    wpAny (model X.prog X.w) X.A (handleBy e X.env (h₀ :: hds)) (SP X pins D) X.xe s₃) X.xe s₂) X.xe s₁) (fun u s' xx => ?_) PassesOwn.looking).run [] s σ H D (I.toTry _) h) (fun f s1 hsp => ?_) (fun e s1 he => he)
  · -- the catch
    obtain ⟨a, B, sI, pins', σ', H', cls, d, rfl, J', nb, up, sky, na, os, ag, w⟩ := xx
    have J : Inv X pins σ' H' sI := J'.ofTry ok
    have sky' : Sky B (X.env :: X.outer) a (Zc cls d) X.env.locals s'.heap := by rw [← hs]; exact sky
    show wpAny (model X.prog X.w) X.A (noteFrame (.ref a) X.env) _ _ _
    refine Sky.land Zc.steady hfr hf sky' fun h3 fl3 up3 => ?_
    have J3 : Inv X pins σ' H' { s' with heap := h3 } := J.landed nb fl3.1 (up.trans up3) os ag
    obtain ⟨oe3, vs3, he3, hz3, hd3⟩ := fl3.there
    have notFr : ∀ {h : Heap} {o : Obj} {vs : Array Value}, h.FunFrames B (X.env :: X.outer) → h.get? a = some o → o.data = .fields vs → a ∉ frs (X.env :: X.outer) := fun {h o vs} ff e dd hm => by
      obtain ⟨_, o', e', hnf⟩ := ff.mem hm
      rw [e] at e'; cases e'
      exact hnf _ dd
    have nfr := notFr fl3.2.2.1 he3 hd3
    have nL : a ≠ X.env.locals := fun z => nfr (List.mem_filterMap.mpr ⟨X.env, List.mem_cons_self, by rw [hf, z]⟩)
    have nF : a ∉ X.fs := fun hm => by
      obtain ⟨e, he, q⟩ := List.mem_filterMap.mp hm
      exact nfr (List.mem_filterMap.mpr ⟨e, List.mem_cons_of_mem _ he, q⟩)
    have S3 := J3.suite he3 hd3 na nL nF
    have go : ∀ {hds' : List ExceptHandler} {l' : List Hd3}, HdsAs X hds' l' → wManyAs X.K Wout D l' cls d σ' H' →
        wpAny (model X.prog X.w) X.A (handleBy (.ref a) X.env hds') (SP X pins D) X.xe { s' with heap := h3 } := by
      intro hds' l' hk
      induction hk with
      | nil =>
        intro w
        refine wpAny_handleBy_nil ?_
        obtain ⟨k1, k2, k3, oe, vs, T, oT, ts', he, hz, hd, h1, hr⟩ := id fl3
        unfold PySem.passOn
        refine wpAny_bind (wpAny_field he hd h1 ?_)
        rw [if_neg (show ¬ ((Value.ref T == Value.none) = true) from by simp)]
        have fin : wpAny (model X.prog X.w) X.A (setFlight (.ref a) X.env.frame) (fun _ s4 => wpAny (model X.prog X.w) X.A (throw (.ref a) : Sem Flow) (SP X pins D) X.xe s4) X.xe { s' with heap := h3 } := by
          rw [hf]
          refine HandSPX.setFlight_upZ fl3 fun h4 hh4 up4 => wpAny_throw (tk _ _ ?_)
          exact ⟨a, B, sI, pins, σ', H', cls, d, rfl, J, nb, (up.trans up3).trans up4, .inr (.inr (by rw [hs]; exact hh4)), na, os, ag, w⟩
        first
          | exact wpAny_bind (wpAny_pure (wpAny_bind fin))
          | exact wpAny_bind fin
      | @cons x n c i ts b₀ suite np pos' hds2 l2 hi hln hc hsu r ih =>
        intro w
        obtain ⟨b, hb1, hyes, hno⟩ := w
        have hloc : Loc X.env.scope n := .inl hln
        refine wpAny_handleBy_cons (codeAny_handlers_test ?_) (by intro q; cases q)
        have LT : PySem.W.Looks (model X.prog X.w) h3 (typeOf (.ref a)) cls := fun A Q E s k q => wpAny_typeOf_ref (k _ _ he3) (by rw [hz3.1]; exact q)
        have LM := PySem.W.exm_one (M := model X.prog X.w) (J3.kIn) LT hb1
        have test : ∀ {Q : Value → Shared → Prop} {E : Value → Shared → Prop}, Q c { s' with heap := h3 } → wpAny (model X.prog X.w) (X.A.mark (some (.ref a))) (eval (.Name x np) X.env) Q E { s' with heap := h3 } := fun {Q E} q => by
          obtain ⟨hg, hdbg, hm | ⟨hm, hv, hnn⟩⟩ := hc
          · exact ld_glob (X := X.suite a ((a, oe3) :: (X.pn ++ pins))) S3 hg hm q hdbg
          · exact ld_blt (X := X.suite a ((a, oe3) :: (X.pn ++ pins))) S3 hg hm hv q hnn hdbg
        refine test (LM.here ?_)
        cases b with
        | true =>
          refine codeAny_handlers_suite_as ?_
          refine HandSPX.lands_againZ fl3 fun h4 fl4 up4 => ?_
          have J4 : Inv X pins σ' H' { s' with heap := h4 } := J.landed nb fl4.1 ((up.trans up3).trans up4) os ag
          obtain ⟨oe4, vs4, he4, hz4, hd4⟩ := fl4.there
          have S4 := J4.suite he4 hd4 na nL nF
          refine store_ok (X := X.suite a ((a, oe4) :: (X.pn ++ pins))) (v := .ref a) S4 hN hi hloc rfl (fun s5 S5 => ?_) (.inr hln)
          refine wpAny_mono ((hsu a oe4 cls d (X.pn ++ pins) hz4 ⟨_, hd4⟩).run [] s5 _ H' _ S5 (hyes rfl a na)) (fun f s6 hsp => ?_) (fun _ _ z => False.elim z)
          have end_ : ∀ {σ6 : St} {H6 : Hp} {Q : Shared → Prop}, Inv (X.suite a ((a, oe4) :: (X.pn ++ pins))) [] σ6 H6 s6 → (∀ s7, Inv X pins (σ6.set i none) H6 s7 → Q s7) →
              wpAny (model X.prog X.w) X.A (do bindName X.env n .none; unbindBehindTheSuite X.env n pos') (fun _ s7 => Q s7) X.xe s6 := fun {σ6 H6 Q} S6 hq => gone_ok (S6.unsuite ok) hN hi hln hq
          cases f with
          | next =>
            obtain ⟨σ6, H6, S6, q6⟩ := hsp
            exact end_ S6 fun s7 J7 => ⟨_, _, J7, q6⟩
          | brk =>
            obtain ⟨σ6, H6, S6, q6⟩ := hsp
            exact end_ S6 fun s7 J7 => ⟨_, _, J7, q6⟩
          | cont =>
            obtain ⟨σ6, H6, S6, q6⟩ := hsp
            exact end_ S6 fun s7 J7 => ⟨_, _, J7, q6⟩
          | ret u =>
            obtain ⟨v6, σ6, H6, S6, r6, q6⟩ := hsp
            exact end_ S6 fun s7 J7 => ⟨_, _, _, J7, r6, q6⟩
        | false =>
          show wpAny _ X.A (handleBy (.ref a) X.env hds2) _ _ _
          exact ih (hno rfl)
    exact go hh w
  · cases f with
    | next =>
      obtain ⟨σ', H', J', q⟩ := hsp
      exact wpAny_execs_nil ⟨σ', H', J'.ofTry ok, q⟩
    | brk =>
      obtain ⟨σ', H', J', q⟩ := hsp
      exact ⟨σ', H', J'.ofTry ok, q⟩
    | cont =>
      obtain ⟨σ', H', J', q⟩ := hsp
      exact ⟨σ', H', J'.ofTry ok, q⟩
    | ret u =>
      obtain ⟨v, σ', H', J', r, q⟩ := hsp
      exact ⟨v, σ', H', J'.ofTry ok, r, q⟩
end
end L2
end
section
set_option maxHeartbeats 4000000
namespace PySem.W
open PySem PySem.Spec PySem.Calls PyProof.Rows
abbrev kld_fn (name qual : Str) (params : Arguments) (body : Expr) (scope : Scope) (cl : List (Str × Addr)) (dV pm cdv ct : Value) : FuncData :=
  { name, qualname := qual, params, body := .expr body, scope, globals := mainGlobals, closure := cl, defaults := dV, kwdefaults := .none, doc := .none, pyModule := pm, annotations := none, code := cdv, closureTuple := ct, builtins := builtinsNs }
abbrev kld_obj (name qual : Str) (params : Arguments) (body : Expr) (scope : Scope) (clos : List (Str × Addr)) (dV pm : Value) (c' : Addr) (ctv : Value) : Obj :=
  { cls := .type "function", data := .func (kld_fn name qual params body scope clos dV pm (.ref c') ctv) }
section
variable {M : Model} {A : Around} {E : Value → Shared → Prop} {s : Shared} {name qual : Str} {params : Arguments} {body : Expr} {scope : Scope} {env : Env} {c P : Addr} {ps : Array Value} {pos : Pos} {firstLine : Nat} {mg : Str → Option Value}
  {clos : List (Str × Addr)} {dV : Value} {Q : Value → Shared → Prop}
theorem kld_makeTail (hcl : closureFor scope env = pure clos) (hge0 : env.globals = mainGlobals) (hg : s.heap.Ns mainGlobals mg) (hcode : env.code = .ref c) (C : CodeHd s.heap c P) (hP : s.heap.get? P = some (tabObj ps)) (ht : TriplesOk ps.toList)
    (hnf : codeAmong pos ps.toList = none) (hgP : mainGlobals ≠ P) (hb : s.heap.BuiltinsAt mg P)
    (h : ∀ c' ctv h' tk, Heap.ExtBut P s.heap h' → s.heap.objs.size ≤ c' → c' < h'.objs.size → h'.CodeRec (.ref c') qual → h'.get? P = some (tabObj (ps ++ #[rawInt pos.line, rawInt pos.col, .ref c'])) →
      Q (.ref h'.objs.size) { s with heap := h'.push (kld_obj name qual params body scope clos dV ((mg "__name__").getD .none) c' ctv), toks := tk }) :
    wpAny M A (makeTail name qual params (.expr body) scope env dV .none none pos firstLine) Q E s := by
  obtain ⟨bm, ob, hbm, hne0, _, hneP, hbo, hcls, hdict, hdata⟩ := hb
  unfold makeTail
  rw [hcl, hge0]
  refine wpAny_bind (wpAny_pure ?_)
  cases clos with
  | nil =>
    simp only [List.isEmpty_nil, if_true]
    refine wpAny_bind (wpAny_pure ?_)
    refine wpAny_bind (wpAny_functionCodeX hcode (C.code hP ht) (C.tab hP) hnf fun c' h' tk hx hge hlt _ hrec htb _ => ?_)
    have hg' := hg.extBut hx hgP
    refine wpAny_bind (wpAny_builtinsFor hg' hbm hne0 (hx _ _ hneP hbo) hcls hdict hdata ?_)
    refine wpAny_bind (wpAny_nsGet hg' ?_)
    exact wpAny_bind (wpAny_pure (wpAny_newObj_type (h c' .none h' tk hx hge hlt hrec htb.2) (by size_fits)))
  | cons q r =>
    simp only [List.isEmpty_cons, Bool.false_eq_true, if_false]
    refine wpAny_bind (wpAny_newTextTuple ?_)
    refine wpAny_bind (wpAny_functionCodeX hcode ((C.keeps fun b o e => Heap.get?_push_of_some _ e).code (Heap.get?_push_of_some _ hP) ht) ((C.keeps fun b o e => Heap.get?_push_of_some _ e).tab (Heap.get?_push_of_some _ hP)) hnf fun c' h' tk hx hge hlt _ hrec htb _ => ?_)
    have hg' := (hg.push _).extBut hx hgP
    have hx' : Heap.ExtBut P s.heap h' := fun b o hb' e => hx b o hb' (Heap.get?_push_of_some _ e)
    have hge' : s.heap.objs.size ≤ c' := Nat.le_trans (by rw [Heap.size_push]; omega) hge
    refine wpAny_bind (wpAny_builtinsFor hg' hbm hne0 (hx' _ _ hneP hbo) hcls hdict hdata ?_)
    refine wpAny_bind (wpAny_nsGet hg' ?_)
    exact wpAny_bind (wpAny_pure (wpAny_newObj_type (h c' _ h' tk hx' hge' hlt hrec htb.2) (by size_fits)))
theorem kld_makeTailHit {cv : Value} (hcl : closureFor scope env = pure clos) (hge0 : env.globals = mainGlobals) (hg : s.heap.Ns mainGlobals mg) (hcode : env.code = .ref c) (C : CodeHd s.heap c P) (hP : s.heap.get? P = some (tabObj ps)) (ht : TriplesOk ps.toList)
    (hf : codeAmong pos ps.toList = some cv) (hb : s.heap.BuiltinsAt mg P)
    (h : ∀ (ctv : Value) (h' : Heap) (tk : Tok), (∀ b o, s.heap.get? b = some o → h'.get? b = some o) → s.heap.objs.size ≤ h'.objs.size →
      Q (.ref h'.objs.size) { s with heap := h'.push { cls := .type "function", data := .func (kld_fn name qual params body scope clos dV ((mg "__name__").getD .none) cv ctv) }, toks := tk }) :
    wpAny M A (makeTail name qual params (.expr body) scope env dV .none none pos firstLine) Q E s := by
  obtain ⟨bm, ob, hbm, hne0, _, hneP, hbo, hcls, hdict, hdata⟩ := hb
  unfold makeTail
  rw [hcl, hge0]
  refine wpAny_bind (wpAny_pure ?_)
  cases clos with
  | nil =>
    simp only [List.isEmpty_nil, if_true]
    refine wpAny_bind (wpAny_pure ?_)
    refine wpAny_bind (wpAny_functionCode_hit hcode (C.code hP ht) hf ?_)
    refine wpAny_bind (wpAny_builtinsFor hg hbm hne0 hbo hcls hdict hdata ?_)
    refine wpAny_bind (wpAny_nsGet hg ?_)
    exact wpAny_bind (wpAny_pure (wpAny_newObj_type (h .none s.heap s.toks (fun _ _ e => e) (Nat.le_refl _)) (by size_fits)))
  | cons q r =>
    simp only [List.isEmpty_cons, Bool.false_eq_true, if_false]
    refine wpAny_bind (wpAny_newTextTuple ?_)
    refine wpAny_bind (wpAny_functionCode_hit hcode ((C.keeps fun b o e => Heap.get?_push_of_some _ e).code (Heap.get?_push_of_some _ hP) ht) hf ?_)
    refine wpAny_bind (wpAny_builtinsFor (hg.push _) hbm hne0 (Heap.get?_push_of_some _ hbo) hcls hdict hdata ?_)
    refine wpAny_bind (wpAny_nsGet (hg.push _) ?_)
    have hsz : ∀ oT : Obj, s.heap.objs.size ≤ (s.heap.push oT).objs.size := fun oT => by rw [Heap.size_push]; omega
    exact wpAny_bind (wpAny_pure (wpAny_newObj_type (h _ _ s.toks (fun b o e => Heap.get?_push_of_some _ e) (hsz _)) (by size_fits)))
end
end PySem.W
namespace LamX
open PySem PySem.Spec PyProof.Rows L2
section
variable {X : Cx} {pins : List (Addr × Obj)} {σ : L2.St} {H : Hp} {s : Shared}
/-- the lambda's object is made, its defaults at dV -/
theorem lam_tail {T : List (Addr × Str)} {c P : Addr} {params : Arguments} {body : Expr} {scope : Scope} {pos : Pos} {dV : Value} {E : Value → Shared → Prop} {Q : Value → Shared → Prop} (I : Inv X pins σ H s) (TB : TabB X.base X.mg c P) (hcode : X.env.code = .ref c)
    (hm : (P, X.env.qual ++ "<lambda>") ∈ T) (hu : ∀ p ∈ T, p.1 = P → p.2 = X.env.qual ++ "<lambda>") (hT : Tabs T H) (hfree : ∀ y ∈ scope.names, y.2 = .free → ∃ c, X.env.cells.lookup y.1 = some c)
    (h : ∀ (f c' : Addr) (pm ctv : Value) (H1 : Hp) (s' : Shared), Inv X pins σ H1 s' → ExtN H H1 → Tabs T H1 →
      s'.heap.get? f = some (PySem.W.kld_obj "<lambda>" (X.env.qual ++ "<lambda>") params body scope (cloFrom X.env.cells scope.names []) dV pm c' ctv) → H1 f = none → f ∉ frs X.stack → H1 c' = some (CodeO c' (X.env.qual ++ "<lambda>")) → Q (.ref f) s') :
    wpAny (model X.prog X.w) X.A (makeTail "<lambda>" (X.env.qual ++ "<lambda>") params (.expr body) scope X.env dV .none none pos pos.line) Q E s := by
  obtain ⟨ps, hP, ht, ha⟩ := hT _ hm
  have bP : s.heap.BuiltinsAt X.mg P := TB.bm.keeps I.bk
  have hP' : s.heap.get? P = some { cls := .none, data := .fields ps } := I.hok P _ hP
  have nofr : ∀ f, s.heap.objs.size ≤ f → f ∉ frs X.stack := fun f hf z => by
    rcases List.mem_cons.mp (I.stkSub _ z) with e | e
    · have h1 := I.lt
      rw [← e] at h1
      exact Nat.lt_irrefl _ (Nat.lt_of_lt_of_le h1 hf)
    · exact I.nofs hf e
  cases hc : codeAmong pos ps.toList with
  | none =>
    refine PySem.W.kld_makeTail (mg := X.mg) (c := c) (P := P) (ps := ps) (closure_ok hfree) I.ok.glob (I.mod.glob.keeps I.bk) hcode (TB.code.keeps I.bk) hP' ht hc TB.gP bP fun c' ctv h' tk hx hge hlt hrec htb => ?_
    obtain ⟨c2, oc, vs, t, e2, hoc, hd, hv⟩ := hrec
    cases e2
    have hsz : s.heap.objs.size ≤ h'.objs.size := Nat.le_trans hge (Nat.le_of_lt hlt)
    have nC : H c' = none := I.hok.fresh hge
    have I1 := inv_table (t' := tk) (more := #[rawInt pos.line, rawInt pos.col, .ref c']) (h' := h'.push (PySem.W.kld_obj "<lambda>" (X.env.qual ++ "<lambda>") params body scope (cloFrom X.env.cells scope.names []) dV ((X.mg "__name__").getD .none) c' ctv)) I hP
      (fun b o hb e => Heap.get?_push_of_some _ (hx b o hb e)) (Heap.get?_push_of_some _ htb) hge ⟨oc, vs, t, Heap.get?_push_of_some _ hoc, hd, hv⟩
    have hE : ExtN H (upd (upd H P (.tbl (ps ++ #[rawInt pos.line, rawInt pos.col, .ref c']))) c' (CodeO c' (X.env.qual ++ "<lambda>"))) := fun b o e n => by
      rw [upd_ne (ne_of_none e nC), upd_ne (fun z => n ps (Option.some.inj (e.symm.trans (by rw [z]; exact hP))))]
      exact e
    have eL : (ps ++ #[rawInt pos.line, rawInt pos.col, .ref c']).toList = ps.toList ++ [rawInt pos.line, rawInt pos.col, .ref c'] := by simp
    refine h h'.objs.size c' ((X.mg "__name__").getD .none) ctv _ _ I1 hE (fun p hp => ?_) (Heap.get?_push_size _ rfl) ?_ (nofr _ hsz) upd_same
    · by_cases hb : p.1 = P
      · rw [hu p hp hb, hb]
        refine ⟨_, by rw [upd_ne (ne_of_none hP nC), upd_same], by rw [eL]; exact PySem.TriplesOk_snoc _ _ _ _ ht, fun p' cv hcv => ?_⟩
        rw [eL] at hcv
        rcases among_app _ ht hcv with z | z
        · obtain ⟨c0, e1, e2⟩ := ha p' cv z
          exact ⟨c0, e1, hE _ _ e2 codeO_ne⟩
        · exact ⟨c', z, upd_same⟩
      · obtain ⟨ps', a1, a2, a3⟩ := hT p hp
        refine ⟨ps', by rw [upd_ne (ne_of_none a1 nC), upd_ne hb]; exact a1, a2, fun p' cv hcv => ?_⟩
        obtain ⟨c0, e1, e2⟩ := a3 p' cv hcv
        exact ⟨c0, e1, hE _ _ e2 codeO_ne⟩
    · have n1 : h'.objs.size ≠ c' := Nat.ne_of_gt hlt
      have n2 : h'.objs.size ≠ P := Nat.ne_of_gt (Nat.lt_of_lt_of_le (Heap.lt_size hP') hsz)
      rw [upd_ne n1, upd_ne n2]
      exact I.hok.fresh hsz
  | some cv =>
    obtain ⟨c', e, hco⟩ := ha pos cv hc
    subst e
    refine PySem.W.kld_makeTailHit (mg := X.mg) (c := c) (P := P) (ps := ps) (closure_ok hfree) I.ok.glob (I.mod.glob.keeps I.bk) hcode (TB.code.keeps I.bk) hP' ht hc bP fun ctv h' tk hx hsz => ?_
    have I1 : Inv X pins σ H { s with heap := h'.push (PySem.W.kld_obj "<lambda>" (X.env.qual ++ "<lambda>") params body scope (cloFrom X.env.cells scope.names []) dV ((X.mg "__name__").getD .none) c' ctv), toks := tk } := I.kept fun b o e => Heap.get?_push_of_some _ (hx b o e)
    exact h h'.objs.size c' ((X.mg "__name__").getD .none) ctv H _ I1 (ExtN.refl H) hT (Heap.get?_push_size _ rfl) (I.hok.fresh hsz) (nofr _ hsz) hco
/-- lambda x=k: body -/
theorem lam_makeD {T : List (Addr × Str)} {c P : Addr} {params : Arguments} {body : Expr} {scope : Scope} {pos cp : Pos} {k : Int} {j : Nat} {E : Value → Shared → Prop} {Q : Value → Shared → Prop} (I : Inv X pins σ H s) (TB : TabB X.base X.mg c P) (hcode : X.env.code = .ref c)
    (hm : (P, X.env.qual ++ "<lambda>") ∈ T) (hu : ∀ p ∈ T, p.1 = P → p.2 = X.env.qual ++ "<lambda>") (hT : Tabs T H) (hdef : defaultsOf params X.env = ([eval (.Constant (.int k) j cp) X.env], [])) (hfree : ∀ y ∈ scope.names, y.2 = .free → ∃ c, X.env.cells.lookup y.1 = some c)
    (h : ∀ (f c' tu : Addr) (pm ctv : Value) (H1 : Hp) (s' : Shared), Inv X pins σ H1 s' → ExtN H H1 → Tabs T H1 → H1 tu = some (.tup [.int k]) →
      s'.heap.get? f = some (PySem.W.kld_obj "<lambda>" (X.env.qual ++ "<lambda>") params body scope (cloFrom X.env.cells scope.names []) (.ref tu) pm c' ctv) → H1 f = none → f ∉ frs X.stack → H1 c' = some (CodeO c' (X.env.qual ++ "<lambda>")) → Q (.ref f) s') :
    wpAny (model X.prog X.w) X.A (eval (.Lambda params body scope pos) X.env) Q E s := by
  rw [arm_eval_Lambda, hdef]
  show wpAny _ _ (do let dv ← evalAll [eval (.Constant (.int k) j cp) X.env]; let kdv ← holding dv (evalAllOpt []); makeFunction "<lambda>" (X.env.qual ++ "<lambda>") params (.expr body) scope X.env dv kdv [] pos pos.line) Q E s
  refine wpAny_bind (wpAny_evalAll_cons (thn ((pe_int (X := X) (i := k) (j := j) (pos := cp)).run pins s σ H (fun v H' => v = .int k ∧ H' = H) I ⟨rfl, rfl⟩) fun u s1 ⟨v, H1, I1, r1, e1, e2⟩ => wpAny_evalAll_nil ?_))
  subst e1
  rw [e2] at I1
  refine wpAny_bind (wpAny_holding (wpAny_pure ?_))
  rw [makeFunction_eq]
  simp only [List.zip_nil_right, List.filterMap_nil, List.isEmpty_nil, List.isEmpty_cons, if_true, pure_bind, Bool.false_eq_true, if_false]
  refine wpAny_bind (wpAny_newTextTuple ?_)
  have nt : H s1.heap.objs.size = none := I1.hok.fresh (Nat.le_refl _)
  have I2 : Inv X pins σ (upd H s1.heap.objs.size (.tup [.int k])) { s1 with heap := s1.heap.push { cls := .type "tuple", data := .seq [u].toArray } } :=
    I1.laid (t' := s1.toks) (a := s1.heap.objs.size) (o := .tup [.int k]) (fun b u q => Heap.get?_push_of_some _ q) (Nat.le_refl _) ⟨by show 1 ≤ sizeLine; decide, [u], .cons r1 .nil, _, Heap.get?_push_size _ rfl, rfl, _, rfl⟩
  have eH : ∀ b o, H b = some o → upd H s1.heap.objs.size (.tup [.int k]) b = some o := fun b o e => by rw [upd_ne (ne_of_none e nt)]; exact e
  refine lam_tail I2 TB hcode hm hu (hT.ext eH) hfree fun f c' pm ctv H3 s3 I3 hE hT3 ho hn hfr hc => ?_
  have ht : H3 s1.heap.objs.size = some (.tup [.int k]) := hE _ _ upd_same fun ps z => by cases z
  exact h f c' s1.heap.objs.size pm ctv H3 s3 I3 ((ExtN.of eH).trans hE) hT3 ht ho hn hfr hc
end
end LamX
end
section
set_option maxHeartbeats 4000000
namespace LamX
open PySem PySem.Spec PyProof.Rows L2
/-- one parameter with a default, no further name of its own -/
structure LamD (N : List Str) (sc scope : Scope) (px : Str) : Prop where
  kind : scope.kind = .function
  co : scope.isCoroutine = false
  gen : scope.isGenerator = false
  own : ∀ y ∈ scope.names, y.2 ≠ .cell ∧ (y.2 = .local → y.1 ∉ N)
  par : scope.names.lookup px = some .local
  free : ∀ y ∈ scope.names, y.2 = .free → sc.names.lookup y.1 = some .cell ∨ sc.names.lookup y.1 = some .free
def lamDB (N : List Str) (sc scope : Scope) (px : Str) : Bool :=
  decide (scope.kind = .function) && (!scope.isCoroutine && (!scope.isGenerator && (decide (scope.names.lookup px = some .local) &&
    scope.names.all fun y => !decide (y.2 = .cell) && ((!decide (y.2 = .local) || !N.contains y.1) && (!decide (y.2 = .free) || decide (sc.names.lookup y.1 = some .cell) || decide (sc.names.lookup y.1 = some .free))))))
theorem lamD_by {N : List Str} {sc scope : Scope} {px : Str} (h : lamDB N sc scope px = true) : LamD N sc scope px := by
  unfold lamDB at h
  simp only [Bool.and_eq_true, Bool.or_eq_true, Bool.not_eq_true', decide_eq_true_eq, decide_eq_false_iff_not, List.all_eq_true] at h
  obtain ⟨h1, h2, h3, h4, h5⟩ := h
  refine ⟨h1, h2, h3, fun y hy => ⟨(h5 y hy).1, fun e => ?_⟩, h4, fun y hy e => ?_⟩
  · rcases (h5 y hy).2.1 with z | z
    · exact absurd e z
    · intro m
      rw [List.contains_iff_mem.mpr m] at z
      cases z
  · rcases (h5 y hy).2.2 with (z | z) | z
    · exact absurd e z
    · exact .inl z
    · exact .inr z
theorem LamD.has {X : Cx} {scope : Scope} {px : Str} (L : LamD X.N X.env.scope scope px) (ok : X.Ok) : ∀ y ∈ scope.names, y.2 = .free → ∃ c, X.env.cells.lookup y.1 = some c := fun y hy e => by
  rcases L.free y hy e with k | k
  · exact ok.has _ (.inl k)
  · exact ok.has _ (.inr k)
section
variable {X : Cx} {pins : List (Addr × Obj)} {σ : L2.St} {H HZ : Hp} {s s1 : Shared}
theorem lam_startD {A : Around} {outer : List Env} {E : XK} {scope : Scope} {px : Str} {u : Value} {f c' : Addr} {h₁ : Heap} {tk : Nat} (I : Inv X pins σ H s) (L : LamD X.N X.env.scope scope px) (e0 : Env0 X.prog X.w X.K X.mg X.base A outer s1 HZ) (hd : A.handled = none)
    (un : Un (frs X.stack) [] H HZ s.heap s1.heap) (hns : h₁.Ns s1.heap.objs.size fun y => ([(px, u)] : List (Str × Value)).reverse.lookup y) (kp : ∀ b o, s1.heap.get? b = some o → h₁.get? b = some o) :
    Inv (lamCx X A outer s1 HZ E scope f c') [] σ HZ { s1 with heap := h₁, toks := tk } := by
  have hfree := L.has I.ok
  have cm : ∀ {y c}, (cloFrom X.env.cells scope.names []).lookup y = some c → X.env.cells.lookup y = some c := fun {y c} e => by
    rcases cloFrom_mem (PySem.mem_of_lookup e) with hm | ⟨h1, h2⟩
    · cases hm
    · obtain ⟨c1, hc⟩ := hfree _ h1 rfl
      have hc : X.env.cells.lookup y = some c1 := hc
      have e2 : c = c1 := by
        rw [h2, hc] <;> rfl
      rw [e2]
      exact hc
  have look : ∀ {y}, scope.names.lookup y = some .free → ∃ c, (cloFrom X.env.cells scope.names []).lookup y = some c := fun {y} hl => by
    have hy : (y, NameKind.free) ∈ scope.names := PySem.mem_of_lookup hl
    exact mem_lookup (cloFrom_has (cells := X.env.cells) (acc := []) hy)
  have cellK : ∀ {c : Addr} {v : Option Value}, H c = none → s.heap.IsCell c v → h₁.IsCell c v := fun {c v} n ⟨o, ho, hd⟩ => by
    obtain ⟨sl, q⟩ := un.any ho n (by simp)
    exact ⟨_, kp _ _ q, hd⟩
  have noA : ∀ b : Addr, b ∉ (lamCx X A outer s1 HZ E scope f c').ex := fun b z => absurd (show b ∈ ([] : List Addr) from z) (by simp)
  refine ⟨⟨e0.mod, L.kind, rfl, rfl, Nat.le_refl _, fun y z c e1 e2 => I.ok.inj y z c (cm e1) (cm e2), fun y hy => ?_, fun y c z _ => ?_, fun _ => hd, Around.frames_deeper e0.frames, .inr ⟨rfl, rfl⟩, fun b z => absurd z (noA b), e0.bs, e0.bsz, fun b _ _ => noA b,
      fun b z => absurd z (noA b), e0.funs, e0.frf⟩,
    rfl, e0.bare, Un.kept kp, ⟨_, hns, fun i y v e1 e2 e3 => ?_⟩, fun y c e => ?_, e0.hok.fresh (Nat.le_refl _), fun y c e => ?_, fun q hq => absurd (show q ∈ ([] : List (Addr × Obj)) ++ [] from hq) (by simp), e0.hok.kept kp, I.len⟩
  · have hy : scope.names.lookup y = some .cell ∨ scope.names.lookup y = some .free := hy
    rcases hy with hy | hy
    · exact absurd rfl (L.own _ (PySem.mem_of_lookup hy)).1
    · exact look hy
  · have z : false = true := z
    cases z
  · have e3 : Vis scope y := e3
    rcases e3 with k | k | k
    · exact absurd (List.mem_of_getElem? (show X.N[i]? = some y from e1)) ((L.own _ (PySem.mem_of_lookup k)).2 rfl)
    · exact absurd rfl (L.own _ (PySem.mem_of_lookup k)).1
    · obtain ⟨m, hn, hl⟩ := I.loc
      have hvis : Vis X.env.scope y := (L.free _ (PySem.mem_of_lookup k) rfl).elim (fun k => .inr (.inl k)) (fun k => .inr (.inr k))
      obtain ⟨w', r, q⟩ := hl i y v e1 e2 hvis
      obtain ⟨c2, h2⟩ := look k
      refine ⟨w', r, .inr ⟨.inr k, c2, h2, ?_⟩⟩
      have c1 := cm h2
      rcases q with ⟨k', _⟩ | ⟨_, c3, e', z⟩
      · have k' : X.env.scope.names.lookup y = some .local := k'
        rcases L.free _ (PySem.mem_of_lookup k) rfl with k2 | k2 <;> rw [show X.env.scope.names.lookup y = _ from k2] at k' <;> cases k'
      · rw [c1] at e'
        cases e'
        exact cellK (I.freeC y _ c1) z
  · obtain ⟨w', z⟩ := I.cell y c (cm e)
    exact ⟨w', cellK (I.freeC y c (cm e)) z⟩
  · obtain ⟨v, o, ho, hd⟩ := I.cell y c (cm e)
    exact un.free c o ho (I.freeC y c (cm e)) (by simp)
/-- x(), in the def that got the lambda -/
theorem pe_actD {CXg : CXT} {Eg : XK} {Ng : List Str} {qg : Str} {sg : Scope} {g f c' tu : Addr} {px : Str} {kd : Int} {cdg pm ctv : Value} {params : Arguments} {body : Expr} {scope : Scope} {k i : Nat} {a : Str} {pn : List (Addr × Obj)} {xe : Value → Shared → Prop} {W : WX} {E : XK} {tb : TE} {p1 p2 : Pos}
    (I : Inv X pins σ H s) (L : LamD X.N X.env.scope scope px) (hf : s.heap.get? f = some (PySem.W.kld_obj "<lambda>" (X.env.qual ++ "<lambda>") params body scope (cloFrom X.env.cells scope.names []) (.ref tu) pm c' ctv)) (hfn : H f = none) (hfr : f ∉ frs X.stack)
    (hbind : ∀ u : Value, ∃ kf, bindArgs (PySem.W.kld_fn "<lambda>" (X.env.qual ++ "<lambda>") params body scope (cloFrom X.env.cells scope.names []) (.ref tu) pm (.ref c') ctv) ⟨[], []⟩ = seqItems? (.ref tu) >>= kf ∧ kf (some #[u]) = pure [(px, u)])
    (tk : Takes ((cxOf CXg X.prog X.w X.K X.mg X.base Ng qg sg g cdg X.A X.stack s H Eg).tr pn xe) W) (hW : ∀ cls d σ' H', E cls d H' → W cls d σ' H') (hr : Room (k + 1) (X.A.deeper (envOfC qg sg s.heap.objs.size g cdg)))
    (hbody : ∀ (A : Around) (outer : List Env) (s : Shared) (H : Hp), Room k (A.deeper (lamEnv X scope s.heap.objs.size f c')) → PE (lamCx X A outer s H E scope f c') body tb)
    (hN : Ng[i]? = some a) (hv : Vis sg a) (hd : (a == ("__debug__" : Str)) = false := by decide) (hcd : (a == ("__classdict__" : Str)) = false := by decide) :
    PE ((cxOf CXg X.prog X.w X.K X.mg X.base Ng qg sg g cdg X.A X.stack s H Eg).tr pn xe) (.Call (.Name a p1) [] [] p2)
      (fun σZ HZ Q => σZ[i]? = some (some (.ref f)) ∧ HZ c' = some (CodeO c' (X.env.qual ++ "<lambda>")) ∧ (HZ tu = some (.tup [.int kd]) ∧ tb σ HZ Q)) := by
  refine ⟨fun pinsZ sZ σZ HZ Q IZ h => ?_⟩
  obtain ⟨hs, hc, htu, ht⟩ := h
  refine wpAny_Call_Name_kw (thn ((pe_var (pos := p1) (i := i) hN hv hd hcd).run pinsZ sZ σZ HZ (fun v H1 => v = .ref f ∧ H1 = HZ) IZ ⟨.ref f, hs, rfl, rfl⟩) fun u s1 ⟨v, H1, I1, r1, q1⟩ => ?_)
  obtain ⟨ev, eH⟩ := q1
  subst ev
  rw [eH] at I1
  obtain rfl : u = Value.ref f := r1
  have of1 : s1.heap.get? f = some (PySem.W.kld_obj "<lambda>" (X.env.qual ++ "<lambda>") params body scope (cloFrom X.env.cells scope.names []) (.ref tu) pm c' ctv) := I1.base.keep f _ hf hfn hfr (fun z => nomatch (show f ∈ ([] : List Addr) from z))
  refine PySem.W.callWith_F0 ⟨_, _, _, _, of1⟩ ?_
  have un : Un (frs X.stack) [] H HZ s.heap s1.heap := I1.base
  obtain ⟨⟨oc, vs, t, hoc, hdc, hvc⟩, _, _⟩ := I1.hok c' _ hc
  have rc : codeAny (model X.prog X.w) (X.A.deeper (envOfC qg sg s.heap.objs.size g cdg)) (.call (.ref f) ⟨[], []⟩) (CR (L2.CX X.prog X.w) (envOfC qg sg s.heap.objs.size g cdg :: X.stack) X.prog X.w HZ s1 Q E) s1 := by
    refine PySem.W.kla_callFunE hr.depth of1 rfl L.co L.gen rfl ⟨c', oc, vs, t, rfl, hoc, hdc, hvc⟩ ?_
    obtain ⟨its, rv, hT, hz⟩ := I1.tuple (SqT.of htu)
    obtain ⟨ot, hot, _, n, hdt⟩ := hT
    cases rv with
    | @cons _ u _ us ru rn =>
      cases rn
      obtain ⟨kf, hb1, hb2⟩ := hbind u
      refine BindsTo.of_defaults (fd := PySem.W.kld_fn "<lambda>" (X.env.qual ++ "<lambda>") params body scope (cloFrom X.env.cells scope.names []) (.ref tu) pm (.ref c') ctv) (args := ⟨[], []⟩) (o := ot) (items := #[u]) rfl hot hdt hb1 hb2 _ _ _ _ ?_
      refine wpAny_newFunctionEnv (fun y hy => (L.own y hy).1) (fun y hy => ?_) (fun h₁ hns hsb => ⟨I1.nolimit.fresh _ hsb, ?_⟩) L.kind
      · rw [List.mem_singleton.mp hy]
        exact L.par
      show codeAny _ _ (.expr body (lamEnv X scope s1.heap.objs.size f c')) _ _
      have kp : ∀ b o, s1.heap.get? b = some o → h₁.get? b = some o := fun b o e => hsb.extBut b o (Nat.ne_of_lt (Heap.lt_size e)) (Heap.get?_push_of_some _ e)
      have J : Inv (lamCx X (X.A.deeper (envOfC qg sg s.heap.objs.size g cdg)) (envOfC qg sg s.heap.objs.size g cdg :: X.stack) s1 HZ E scope f c') [] σ HZ { s1 with heap := h₁, toks := s1.toks + ([(px, u)] : List (Str × Value)).length } :=
        lam_startD I L I1.env0 hr.hd un hns kp
      refine PySem.W.kla_codeExpr (wpAny_mono ((hbody _ _ s1 HZ (hr.deeper _)).run [] _ _ HZ Q J ht) (fun v s' hq => ?_) fun e s' hq => hq)
      obtain ⟨w', H', J', rv, q⟩ := hq
      exact ⟨w', H', J'.os, J'.bare, J'.base, J'.hok, rv, q⟩
  have hx : Passes (L2.CX X.prog X.w) ((cxOf CXg X.prog X.w X.K X.mg X.base Ng qg sg g cdg X.A X.stack s H Eg).tr pn xe) E := passes_call tk hW
  refine wpAny_call (codeAny_mono rc fun r s' hq => ?_)
  cases r with
  | error e => exact hx pinsZ σZ HZ s1 e s' I1 hq
  | ok fl =>
    cases fl with
    | ret u => exact I1.after hq
    | next => exact False.elim hq
    | brk => exact False.elim hq
    | cont => exact False.elim hq
end
/-- x(lambda y=k: body): T's tables, the tuple of the default -/
def tLamD (T : List (Addr × Str)) (kd : Int) (TT : (XK → Hp → VK → Prop) → Hp → VK → Prop) (t : XK → TE) : TE := fun σ H Q => Tabs T H ∧ ∀ H1 tu, ExtN H H1 → Tabs T H1 → H1 tu = some (.tup [.int kd]) → TT (fun E H' Q' => H' tu = some (.tup [.int kd]) ∧ t E σ H' Q') H1 Q
section
variable {X : Cx}
theorem pe_lamcallD {T : List (Addr × Str)} {TT : (XK → Hp → VK → Prop) → Hp → VK → Prop} {x a px : Str} {g c P : Addr} {k j : Nat} {kd : Int} {pg : Arguments} {bg : List Stmt} {sg : Scope} {dV kV doc pm cdv ct oc : Value} {an od : Option Addr} {osl : Array (Option Value)} {Ng : List Str}
    {params : Arguments} {body : Expr} {scope : Scope} {t : XK → TE} {p lpos cp pos : Pos} (hg : Gl X x) (hm : X.mg x = some (.ref g)) (hk : PySem.W.keepIn X.K (.ref g) = true)
    (lk : X.K.lookup g = some ⟨oc, od, .func (PySem.W.fnOf x x pg bg sg dV kV doc pm an cdv ct), osl⟩) (hcg : PySem.W.codeIn X.K cdv x = true) (hb : L2.Binds X.K (PySem.W.fnOf x x pg bg sg dV kV doc pm an cdv ct) [a] []) (Sg : FnScope Ng [a] sg) (hNg : Ng[0]? = some a) (hva : Vis sg a)
    (hG : GivesTo X Ng x sg g cdv bg a (X.env.qual ++ "<lambda>") TT)
    (TB : TabB X.base X.mg c P) (hcode : X.env.code = .ref c) (hmT : (P, X.env.qual ++ "<lambda>") ∈ T) (hu : ∀ p ∈ T, p.1 = P → p.2 = X.env.qual ++ "<lambda>") (hr : Room (k + 2) X.A) (L : LamD X.N X.env.scope scope px) (hdef : defaultsOf params X.env = ([eval (.Constant (.int kd) j cp) X.env], []))
    (hbind : ∀ (q : Str) (cl : List (Str × Addr)) (tu : Addr) (pm cv ctv u : Value), ∃ kf, bindArgs (PySem.W.kld_fn "<lambda>" q params body scope cl (.ref tu) pm cv ctv) ⟨[], []⟩ = seqItems? (.ref tu) >>= kf ∧ kf (some #[u]) = pure [(px, u)])
    (hbody : ∀ (A : Around) (outer : List Env) (s : Shared) (H : Hp) (E : XK) (f c' : Addr), Room k (A.deeper (lamEnv X scope s.heap.objs.size f c')) → PE (lamCx X A outer s H E scope f c') body (t E))
    (hdb : (x == ("__debug__" : Str)) = false := by decide) (hd : (a == ("__debug__" : Str)) = false := by decide) (hcd : (a == ("__classdict__" : Str)) = false := by decide) :
    PE X (.Call (.Name x p) [.Lambda params body scope lpos] [] pos) (tLamD T kd TT t) := by
  refine ⟨fun pins s σ H Q I h => ?_⟩
  obtain ⟨hT, h⟩ := h
  refine wpAny_Call_Name_kw (ld_glob I hg hm ?_ hdb)
  refine PySem.W.callWith_K (h₀ := X.base) I.ok.mod.kin hk ?_ (by rfl) (by rfl)
  show wpAny _ _ (spliced ((false, eval (.Lambda params body scope lpos) X.env) :: backTo pos (starEach [] X.env))) _ _ s
  refine Calls.spliced_cons (lam_makeD I TB hcode hmT hu hT hdef (L.has I.ok) fun f c' tu pm' ctv H1 s' I1 eN T1 htu hf hfn hfr hco => ?_)
  refine Calls.spliced_nil ⟨I1.kIn, ?_⟩
  have rc : codeAny (model X.prog X.w) X.A (.call (.ref g) ⟨[.ref f], []⟩) (CR C8.CX0 X.stack X.prog X.w H1 s' Q C8.E0) s' := by
    refine run_ofS (N := Ng) (ps := [a]) (us := [.ref f]) (vs := [.ref f]) lk hcg Sg hr I1.env0 (hb s' [.ref f] I1.kIn rfl) (.cons rfl .nil) rfl fun hr' => ?_
    obtain ⟨t', ht', hq'⟩ := hG f c' s' H1 Q (fun E H' Q' => H' tu = some (.tup [.int kd]) ∧ t E σ H' Q') (fun W pn xe E p1 p2 tk hW => pe_actD (i := 0) I1 L hf hfn hfr (fun u => hbind _ _ _ _ _ _ u) tk hW hr' (fun A outer s H hr2 => hbody A outer s H E f c' hr2) hNg hva hd hcd) hco (h H1 tu eN T1 htu)
    exact ⟨t', ht'.nox, hq'⟩
  refine wpAny_call (codeAny_mono rc fun r s2 hq => ?_)
  cases r with
  | error e => exact (show False from hq).elim
  | ok fl =>
    cases fl with
    | ret u => exact I1.after hq
    | next => exact False.elim hq
    | brk => exact False.elim hq
    | cont => exact False.elim hq
end
end LamX
end
section
set_option maxHeartbeats 4000000
namespace Kx
open PySem PySem.Spec PyProof.Rows L2 RZ
/-! ### a step told, sizes asked -/
def spIst (K : PySem.W.Frag) (S : Addr) : Sp := fun vs H Q _ => ∃ (x y : V) (qs : List Rat), vs = [x, y] ∧ StAt K S H x qs ∧ Ls K H y (0 :: qs) ∧ ∀ H', Same H H' → Q (.bl true) H'
def fitB (q : Rat) : Bool := decide (q.num.natAbs < 10 ^ 60) && decide (q.den < 10 ^ 60)
def spFts (K : PySem.W.Frag) : Sp := fun vs H Q _ => ∃ (x : V) (us : List Rat), vs = [x] ∧ Ls K H x us ∧ us.length ≤ 40 ∧ ∀ H', Same H H' → Q (.bl (us.all fitB)) H'
theorem fit_of {us : List Rat} (h : us.all fitB = true) : ∀ q ∈ us, FitQ q := fun q hq => by
  have := List.all_eq_true.mp h q hq
  unfold fitB at this
  rw [Bool.and_eq_true, decide_eq_true_eq, decide_eq_true_eq] at this
  have b : (10 : Nat) ^ 60 < 2 ^ 200 := by decide
  exact ⟨Nat.lt_trans this.1 b, Nat.lt_trans this.2 b⟩
section
variable {P : Program} {w : World} {K : PySem.W.Frag} {mg : Str → Option Value} {base : Heap} {f C S CF CO o0 : Addr} {fd : FuncData}
theorem scIst : FnScope ["_law_told", "_law_f"] ["_law_told", "_law_f"] (defScope L_is_step) := ⟨rfl, rfl, rfl, by decide +kernel, rfl, by decide +kernel, by decide +kernel⟩
theorem ok_isstep (F : Fun K "_law_is_step" "_law_is_step" L_is_step f fd) (k : StepK P w K mg base C S CF CO) (mn : mg "len" = none) (UN : MUse P w K mg base CX0 1 S "numbers" ["self"] (spNuS K S) []) (US : Use P w K mg base CX0 5 "_law_same" ["_law_found", "_law_due_here"] (spLike K 3) []) : FnOk P w K mg base CX0 6 f fd ["_law_told", "_law_f"] (spIst K S) := by
  refine F.ok scIst (fun vs H Q E h => ?_) (fun cdv A outer s H vs Q E hr h => ?_)
  · obtain ⟨x, y, qs, rfl, _⟩ := h
    rfl
  obtain ⟨u, y, qs, rfl, hR, hL, q⟩ := h
  have hr1 := hr.mono (show 1 ≤ 5 by decide)
  refine ⟨_, pss_one (ps_ret (pe_use US hr rfl pass0 (pa_cons (pe_lst (pa_cons (pe_mu0 UN (pv 0) hr1 pass0) (pa_cons (pe_fld (pv 0) rfl) (pa_cons (pe_fld (pv 0) rfl) pa_nil))))
    (pa_cons (pe_lst (pa_cons (pe_slice sl_list (pv 1) (po_some pe_int) po_none) (pa_cons (pe_op op_sub (pe_callB call_len_seq rfl mn PySem.boot_len (pa_cons (pv 1) pa_nil)) pe_int) (pa_cons (pe_ix ix_list (pv 1) pe_int (fun _ _ => rfl)) pa_nil)))) pa_nil)))), ?_⟩
  obtain ⟨l2, l24⟩ := hR.le
  obtain ⟨x, dx, fs, x0, rfl, hx, fl, nq, fn, _⟩ := hR.ld
  obtain ⟨x', dx', _, _, gs, e', hx', _, _, _, fo⟩ := hR.nb
  obtain rfl := V.ref.inj e'
  rw [hx] at hx'
  cases hx'
  obtain ⟨a, ys, rfl, ha, ny⟩ := id hL
  have ly : ys.length = qs.length + 1 := ny.1
  obtain ⟨y1, ey1, ny1⟩ := ny.get' (i := 1) (by rw [List.length_cons]; omega)
  refine ⟨_, rfl, x, dx, fs, rfl, hx, fn, .ref x, qs, rfl, hR, fun t H1 zs s1 nt et nz => ?_⟩
  refine ⟨_, rfl, x, S, dx, _, _, rfl, s1 _ _ hx, k.c, k.nA _ (by simp [stN]), fo, _, rfl, x, S, dx, _, _, rfl, s1 _ _ hx, k.c, k.nA _ (by simp [stN]), fl, (by show 3 ≤ sizeLine; decide), fun t1 n1 => ?_⟩
  have g1 := new_same n1 (.lst [.ref t, .int (qs.length : Int), x0])
  have ha1 := g1 _ _ (s1 _ _ ha)
  refine ⟨_, rfl, 1, rfl, a, ys, rfl, SqL.of ha1, fun p np => ?_⟩
  rw [show cutV ys (some 1) none = ys.drop 1 from cut_drop ys 1]
  have g2 := new_same np (.lst (ys.drop 1))
  refine ⟨_, rfl, a, ys, rfl, .inl (SqL.of (g2 _ _ ha1)), (ys.length : Nat), 1, rfl, rfl, _, rfl, a, ys, 1, y1, rfl, rfl, SqL.of (g2 _ _ ha1), at_of (j := 1) rfl ey1, (by show 3 ≤ sizeLine; decide), fun t2 n2 => ?_⟩
  have g3 := new_same n2 (.lst [.ref p, .int (((ys.length : Nat) : Int) - 1), y1])
  have sA := s1.trans (g1.trans (g2.trans g3))
  refine ⟨_, _, rfl, Lk.lst (n := 2) ((g2.trans g3) _ _ upd_same) upd_same (by show 3 ≤ 60; decide) ?_, fun H' s' => q _ (sA.trans s')⟩
  have nq1 : Nq K H y1 (serS qs 1) := by
    have e : (0 :: qs)[1]'(by rw [List.length_cons]; omega) = serS qs 1 := by
      show qs[0]'(by omega) = qs.getD 0 0
      rw [List.getD_eq_getElem?_getD, List.getElem?_eq_getElem (by omega)]
      rfl
    rw [← e]
    exact ny1
  refine .cons (Ls.lk (n := 0) ⟨t, zs, rfl, (g1.trans (g2.trans g3)) _ _ et, nz.same (g1.trans (g2.trans g3))⟩ ⟨p, ys.drop 1, rfl, g3 _ _ upd_same, (ny.drop 1).same sA⟩ (by omega)) (.cons ?_ (.cons (Nq.lk (n := 1) (nq.same sA) (nq1.same sA)) .nil))
  show Lk K 2 _ (.int (qs.length : Int)) (.int (((ys.length : Nat) : Int) - 1))
  rw [show ((ys.length : Nat) : Int) - 1 = (qs.length : Int) by omega]
  exact Lk.flat rfl
theorem scFts : FnScope ["_law_u", "_law_p"] ["_law_u"] (defScope L_fits) := ⟨rfl, rfl, rfl, by decide +kernel, rfl, by decide +kernel, by decide +kernel⟩
theorem ok_fits (F : Fun K "_law_fits" "_law_fits" L_fits f fd) (ma : mg "all" = none) (mb : mg "abs" = none) : FnOk P w K mg base CX0 1 f fd ["_law_u"] (spFts K) := by
  refine F.ok scFts (fun vs H Q E h => ?_) (fun cdv A outer s H vs Q E hr h => ?_)
  · obtain ⟨x, us, rfl, _⟩ := h
    rfl
  obtain ⟨x, us, rfl, ⟨a, xs, rfl, ha, nx⟩, hn, q⟩ := h
  refine ⟨_, pss_one (ps_ret (pe_callB (cr_all rfl) rfl ma (by decide +kernel) (pa_cons (pe_lc (own := [("_law_p", 1)]) (g := gName 1) (tt := tYes) rfl scFts.nd (pi_list (pv 0)) (blkOk_by (N := ["_law_u", "_law_p"]) (sc := defScope L_fits) (by decide +kernel)) (fun _ _ _ _ _ => pg_name (i := 1) scFts.nd rfl (Or.inl rfl)) (fun _ _ _ _ _ => pts_nil)
        (fun _ _ _ _ _ => pe_and (pe_cmpR op_lt (pe_callB call_abs rfl mb (by decide +kernel) (pa_cons (pe_ix (ixt_at K rfl) (pv 1) pe_int (fun _ _ => rfl)) pa_nil)) (pe_op op_pow pe_int pe_int) (nomark _)) (pe_one (pe_cmpR op_lt (pe_ix (ixt_at K rfl) (pv 1) pe_int (fun _ _ => rfl)) (pe_op op_pow pe_int pe_int) (nomark _))))) pa_nil))), ?_⟩
  have lx : xs.length = us.length := nx.1
  have e10 : (10 : Int) ^ (60 : Int).toNat = ((10 ^ 60 : Nat) : Int) := by decide
  refine ⟨_, rfl, a, rfl, ⟨_, SqL.of ha⟩, fun D nD => ?_⟩
  refine lc_acc (walk_list (K := K) (a := a) (xs := xs)) (fun i _ y => ∀ r, us[i]? = some r → y = .bl (fitB r)) (fun i H H' y l h _ _ => h) nD (by omega) (fun H2 s => SqL.of (s _ _ ha)) ?_ ?_
  · rintro i x H2 H3 k hi s2 ⟨rfl, hx2⟩ hk
    obtain ⟨b, eb, nb⟩ := nx.get hx2
    obtain ⟨vb, rfl, sb, _⟩ := (nb.same s2).sq
    have fin : fitB b = (decide (((b.num.natAbs : Nat) : Int) < (10 : Int) ^ (60 : Int).toNat) && decide (((b.den : Nat) : Int) < (10 : Int) ^ (60 : Int).toNat)) := by
      unfold fitB
      rw [e10, decide_eq_decide.mpr Int.ofNat_lt.symm, decide_eq_decide.mpr (Int.ofNat_lt (n := b.den) (m := 10 ^ 60)).symm]
    refine ⟨rfl, _, rfl, vb, _, 0, _, rfl, rfl, sb, rfl, _, rfl, 10, 60, rfl, rfl, ⟨by decide, by decide, by decide⟩, _, _, rfl, rfl, _, rfl, ?_⟩
    rw [abs_nat]
    cases c : decide (((b.num.natAbs : Nat) : Int) < (10 : Int) ^ (60 : Int).toNat) with
    | false =>
      rw [c, Bool.false_and] at fin
      exact iteF (hk _ _ (Same.refl _) fun r hr => by rw [eb] at hr; rw [← Option.some.inj hr, fin])
    | true =>
      rw [c, Bool.true_and] at fin
      refine iteT ⟨_, rfl, vb, _, 1, _, rfl, rfl, sb, rfl, 10, 60, rfl, rfl, ⟨by decide, by decide, by decide⟩, _, _, rfl, rfl, ?_⟩
      exact hk _ _ (Same.refl _) fun r hr => by rw [eb] at hr; rw [← Option.some.inj hr, fin]
  · intro H2 zs s2 hD hl hR
    have ez : zs = (us.map fitB).map V.bl := by
      apply List.ext_getElem?
      intro i
      rw [List.map_map, List.getElem?_map]
      by_cases c : i < us.length
      · rw [List.getElem?_eq_getElem c]
        have e := List.getElem?_eq_getElem (l := zs) (i := i) (by omega)
        rw [e, hR i _ e _ (List.getElem?_eq_getElem c)]
        rfl
      · rw [List.getElem?_eq_none (by omega), List.getElem?_eq_none (by omega)]
        rfl
    refine ⟨D, _, rfl, SqL.of (by rw [hD, ez]), ?_⟩
    rw [List.all_map]
    exact q _ s2
end
end Kx
end
section
set_option maxHeartbeats 4000000
namespace Kx
open PySem PySem.Spec PyProof.Rows L2 RZ
/-! ### the sums t^i L^i / i! of a drift v: L is v times the slope -/
def fcR : Nat → Rat
  | 0 => 1
  | i + 1 => fcR i / ((i + 1 : Nat) : Rat)
def pwQ (t : Rat) : Nat → Rat
  | 0 => 1
  | i + 1 => pwQ t i * t
def exR (t : Rat) : Ser := fun i => pwQ t i * fcR i
def derS (f : Ser) : Ser := fun n => f (n + 1) * ((n + 1 : Nat) : Rat)
def lS (v f : Ser) : Ser := mulS v (derS f)
def lP (v u : Ser) : Nat → Ser
  | 0 => u
  | i + 1 => lS v (lP v u i)
def dV (v u : Ser) (i : Nat) : Ser := fun k => lP v u i k * fcR i
def eN (v u : Ser) (t : Rat) (N : Nat) : Ser := fun k => sumN (fun i => pwQ t i * dV v u i k) N
theorem two_sum (M : Nat → Nat → Rat) (n : Nat) : sumN (fun i => ((i + 1 : Nat) : Rat) * M (i + 1) (n - i)) (n + 1) + sumN (fun i => ((n - i + 1 : Nat) : Rat) * M i (n - i + 1)) (n + 1) = ((n + 1 : Nat) : Rat) * sumN (fun i => M i (n + 1 - i)) (n + 2) := by
  rw [← sum_mul]
  have e : sumN (fun i => ((n + 1 : Nat) : Rat) * M i (n + 1 - i)) (n + 2) = sumN (fun i => ((i : Nat) : Rat) * M i (n + 1 - i) + ((n + 1 - i : Nat) : Rat) * M i (n + 1 - i)) (n + 2) := sum_congr fun i hi => by
    rw [← Rat.add_mul, ← Rat.natCast_add, show i + (n + 1 - i) = n + 1 by omega]
  rw [e, sum_add, sum_first (fun i => ((i : Nat) : Rat) * M i (n + 1 - i)) (n + 1)]
  have l : sumN (fun i => ((n + 1 - i : Nat) : Rat) * M i (n + 1 - i)) (n + 2) = sumN (fun i => ((n + 1 - i : Nat) : Rat) * M i (n + 1 - i)) (n + 1) := by
    show _ + ((n + 1 - (n + 1) : Nat) : Rat) * _ = _
    rw [Nat.sub_self]
    show _ + (0 : Rat) * _ = _
    rw [Rat.zero_mul, Rat.add_zero]
  rw [l]
  have z : ((0 : Nat) : Rat) * M 0 (n + 1 - 0) = 0 := Rat.zero_mul _
  rw [z, Rat.zero_add]
  have a : sumN (fun i => ((i + 1 : Nat) : Rat) * M (i + 1) (n + 1 - (i + 1))) (n + 1) = sumN (fun i => ((i + 1 : Nat) : Rat) * M (i + 1) (n - i)) (n + 1) := sum_congr fun i _ => by rw [show n + 1 - (i + 1) = n - i by omega]
  have b : sumN (fun i => ((n + 1 - i : Nat) : Rat) * M i (n + 1 - i)) (n + 1) = sumN (fun i => ((n - i + 1 : Nat) : Rat) * M i (n - i + 1)) (n + 1) := sum_congr fun i hi => by rw [show n + 1 - i = n - i + 1 by omega]
  rw [a, b]
theorem der_mul (f g : Ser) : derS (mulS f g) = addS (mulS (derS f) g) (mulS f (derS g)) := by
  funext n
  have h := two_sum (fun i j => f i * g j) n
  show sumN (fun i => f i * g (n + 1 - i)) (n + 2) * ((n + 1 : Nat) : Rat) = sumN (fun i => f (i + 1) * ((i + 1 : Nat) : Rat) * g (n - i)) (n + 1) + sumN (fun i => f i * (g (n - i + 1) * ((n - i + 1 : Nat) : Rat))) (n + 1)
  rw [Rat.mul_comm, ← h]
  congr 1 <;> exact sum_congr fun i _ => by grind
theorem mulS_smul (c : Rat) (f g : Ser) : mulS (fun k => c * f k) g = fun k => c * mulS f g k := by
  funext n
  show sumN (fun i => c * f i * g (n - i)) (n + 1) = c * sumN _ (n + 1)
  rw [← sum_mul]
  exact sum_congr fun i _ => by grind
theorem mulS_smulR (c : Rat) (f g : Ser) : mulS f (fun k => c * g k) = fun k => c * mulS f g k := by rw [mulS_comm, mulS_smul, mulS_comm]
theorem mulS_addR (f g h : Ser) : mulS f (addS g h) = addS (mulS f g) (mulS f h) := by rw [mulS_comm, mulS_add, mulS_comm g, mulS_comm h]
theorem der_add (f g : Ser) : derS (addS f g) = addS (derS f) (derS g) := by
  funext n
  show (f (n + 1) + g (n + 1)) * _ = f (n + 1) * _ + g (n + 1) * _
  rw [Rat.add_mul]
theorem lS_add (v f g : Ser) : lS v (addS f g) = addS (lS v f) (lS v g) := by
  unfold lS
  rw [der_add, mulS_addR]
theorem lS_smul (v f : Ser) (c : Rat) : lS v (fun k => c * f k) = fun k => c * lS v f k := by
  have : derS (fun k => c * f k) = fun k => c * derS f k := by
    funext n
    show c * f (n + 1) * _ = c * (f (n + 1) * _)
    rw [Rat.mul_assoc]
  unfold lS
  rw [this, mulS_smulR]
theorem lS_zero (v : Ser) : lS v (fun _ => 0) = fun _ => 0 := by
  have := lS_smul v (fun _ => 0) 0
  have e : (fun k : Nat => (0 : Rat) * (fun _ => (0 : Rat)) k) = fun _ => 0 := by funext k; exact Rat.zero_mul _
  rw [e] at this
  rw [this]
  funext k
  exact Rat.zero_mul _
theorem lS_sum (v : Ser) (F : Nat → Ser) : ∀ n, lS v (fun k => sumN (fun i => F i k) n) = fun k => sumN (fun i => lS v (F i) k) n
  | 0 => lS_zero v
  | n + 1 => by
    have : (fun k => sumN (fun i => F i k) (n + 1)) = addS (fun k => sumN (fun i => F i k) n) (F n) := rfl
    rw [this, lS_add, lS_sum v F n]
    rfl
theorem lS_mul (v f g : Ser) : lS v (mulS f g) = addS (mulS (lS v f) g) (mulS f (lS v g)) := by
  unfold lS
  rw [der_mul, mulS_addR, ← mulS_assoc, ← mulS_assoc v f, mulS_comm v f, mulS_assoc f v]
theorem lP_sum (v : Ser) (F : Nat → Ser) (n : Nat) : ∀ j, lP v (fun k => sumN (fun i => F i k) n) j = fun k => sumN (fun i => lP v (F i) j k) n
  | 0 => rfl
  | j + 1 => by
    show lS v (lP v _ j) = _
    rw [lP_sum v F n j, lS_sum]
    rfl
theorem lP_smul (v f : Ser) (c : Rat) : ∀ j, lP v (fun k => c * f k) j = fun k => c * lP v f j k
  | 0 => rfl
  | j + 1 => by
    show lS v (lP v _ j) = _
    rw [lP_smul v f c j, lS_smul]
    rfl
theorem lP_lP (v u : Ser) (i : Nat) : ∀ j, lP v (lP v u i) j = lP v u (i + j)
  | 0 => rfl
  | j + 1 => by
    show lS v (lP v _ j) = lS v (lP v u (i + j))
    rw [lP_lP v u i j]
theorem lP_add (v f g : Ser) : ∀ j, lP v (addS f g) j = addS (lP v f j) (lP v g j)
  | 0 => rfl
  | j + 1 => by
    show lS v (lP v _ j) = _
    rw [lP_add v f g j, lS_add]
    rfl
theorem dV_zero (v u : Ser) : dV v u 0 = u := by
  funext k
  show u k * 1 = u k
  rw [Rat.mul_one]
theorem dV_succ (v u : Ser) (i : Nat) : lS v (dV v u i) = fun k => ((i + 1 : Nat) : Rat) * dV v u (i + 1) k := by
  have e : dV v u i = fun k => fcR i * lP v u i k := by funext k; exact Rat.mul_comm _ _
  rw [e, lS_smul]
  funext k
  show fcR i * lP v u (i + 1) k = ((i + 1 : Nat) : Rat) * (lP v u (i + 1) k * (fcR i / ((i + 1 : Nat) : Rat)))
  have n0 := nat_ne (show i + 1 ≠ 0 by omega)
  have : fcR i / ((i + 1 : Nat) : Rat) * ((i + 1 : Nat) : Rat) = fcR i := Rat.div_mul_cancel n0
  grind
theorem dV_next (v u : Ser) (i k : Nat) : dV v u (i + 1) k = lS v (dV v u i) k * (1 / ((i + 1 : Nat) : Rat)) := by
  rw [dV_succ]
  have n0 := nat_ne (show i + 1 ≠ 0 by omega)
  have : (1 : Rat) / ((i + 1 : Nat) : Rat) * ((i + 1 : Nat) : Rat) = 1 := Rat.div_mul_cancel n0
  grind
theorem leib (v f g : Ser) : ∀ n k, dV v (mulS f g) n k = sumN (fun i => mulS (dV v f i) (dV v g (n - i)) k) (n + 1)
  | 0, k => by
    rw [dV_zero]
    show _ = 0 + mulS (dV v f 0) (dV v g 0) k
    rw [dV_zero, dV_zero, Rat.zero_add]
  | n + 1, k => by
    have n0 := nat_ne (show n + 1 ≠ 0 by omega)
    have ih : dV v (mulS f g) n = fun k => sumN (fun i => mulS (dV v f i) (dV v g (n - i)) k) (n + 1) := funext fun k => leib v f g n k
    have h1 : ((n + 1 : Nat) : Rat) * dV v (mulS f g) (n + 1) k = lS v (dV v (mulS f g) n) k := by rw [dV_succ]
    rw [ih, lS_sum] at h1
    have h2 := two_sum (fun i j => mulS (dV v f i) (dV v g j) k) n
    rw [← sum_add] at h2
    have h3 : sumN (fun i => lS v (mulS (dV v f i) (dV v g (n - i))) k) (n + 1) = sumN (fun i => ((i + 1 : Nat) : Rat) * mulS (dV v f (i + 1)) (dV v g (n - i)) k + ((n - i + 1 : Nat) : Rat) * mulS (dV v f i) (dV v g (n - i + 1)) k) (n + 1) := sum_congr fun i _ => by
      rw [lS_mul, dV_succ, dV_succ, mulS_smul, mulS_smulR]
      rfl
    have h4 := Eq.trans h1 (h3.trans h2)
    have : ∀ {a b c : Rat}, c ≠ 0 → c * a = c * b → a = b := fun {a b c} hc e => by
      have h : c⁻¹ * c = 1 := Rat.inv_mul_cancel c hc
      have : c⁻¹ * (c * a) = c⁻¹ * (c * b) := by rw [e]
      rw [← Rat.mul_assoc, ← Rat.mul_assoc, h, Rat.one_mul, Rat.one_mul] at this
      exact this
    exact this n0 h4
theorem pwQ_add (t : Rat) (i : Nat) : ∀ j, pwQ t (i + j) = pwQ t i * pwQ t j
  | 0 => (Rat.mul_one _).symm
  | j + 1 => by
    show pwQ t (i + j) * t = pwQ t i * (pwQ t j * t)
    rw [pwQ_add t i j, Rat.mul_assoc]
theorem sq_tri (G : Nat → Nat → Rat) (N : Nat) (h : ∀ i j, N ≤ i + j → G i j = 0) : sumN (fun i => sumN (G i) N) N = sumN (fun n => sumN (fun i => G i (n - i)) (n + 1)) N := by
  rw [sum_tri]
  refine sum_congr fun i _ => ?_
  exact sum_more (Nat.sub_le N i) fun j hj => h i j (by omega)
/-- L lifts -/
theorem lP_low {v u : Ser} {kk : Nat} (hv : ∀ j, j ≤ kk → v j = 0) : ∀ i k, 1 ≤ i → k ≤ i * kk → lP v u i k = 0
  | 0, _, h, _ => absurd h (by omega)
  | i + 1, k, _, hk => by
    show sumN (fun a => v a * (lP v u i (k - a + 1) * ((k - a + 1 : Nat) : Rat))) (k + 1) = 0
    refine sum_zero fun a ha => ?_
    rcases Nat.lt_or_ge kk a with c | c
    · rcases Nat.eq_zero_or_pos i with rfl | i1
      · omega
      · rw [lP_low hv i (k - a + 1) i1 (by rw [Nat.succ_mul] at hk; omega), Rat.zero_mul, Rat.mul_zero]
    · rw [hv a c, Rat.zero_mul]
theorem dV_low {v u : Ser} {kk : Nat} (hv : ∀ j, j ≤ kk → v j = 0) {i k : Nat} (i1 : 1 ≤ i) (hk : k ≤ i * kk) : dV v u i k = 0 := by
  show lP v u i k * _ = 0
  rw [lP_low hv i k i1 hk, Rat.zero_mul]
section
variable {v : Ser} (hv : ∀ j, j ≤ 1 → v j = 0)
include hv
theorem dV_lo {u : Ser} {i k : Nat} (i1 : 1 ≤ i) (hk : k ≤ i) : dV v u i k = 0 := dV_low hv i1 (by omega)
theorem mul_lo {f g : Ser} {i j k : Nat} (h : k + 1 ≤ i + j) : mulS (dV v f i) (dV v g j) k = 0 := sum_zero fun a ha => by
  rcases Nat.eq_zero_or_pos i with rfl | i1
  · rw [dV_lo hv (i := j) (k := k - a) (by omega) (by omega), Rat.mul_zero]
  rcases Nat.lt_or_ge i a with c | c
  · rcases Nat.eq_zero_or_pos j with rfl | j1
    · omega
    · rw [dV_lo hv (i := j) (k := k - a) j1 (by omega), Rat.mul_zero]
  · rw [dV_lo hv (i := i) (k := a) i1 c, Rat.zero_mul]
theorem eN_mul (f g : Ser) (t : Rat) {N k : Nat} (hk : k < N) : eN v (mulS f g) t N k = mulS (eN v f t N) (eN v g t N) k := by
  have r : mulS (eN v f t N) (eN v g t N) k = sumN (fun i => sumN (fun j => pwQ t i * pwQ t j * mulS (dV v f i) (dV v g j) k) N) N := by
    show sumN (fun a => sumN (fun i => pwQ t i * dV v f i a) N * sumN (fun j => pwQ t j * dV v g j (k - a)) N) (k + 1) = _
    have e1 : ∀ a, sumN (fun i => pwQ t i * dV v f i a) N * sumN (fun j => pwQ t j * dV v g j (k - a)) N = sumN (fun i => sumN (fun j => pwQ t i * pwQ t j * (dV v f i a * dV v g j (k - a))) N) N := fun a => by
      rw [← sum_mulR]
      refine sum_congr fun i _ => ?_
      rw [← sum_mul]
      exact sum_congr fun j _ => by grind
    rw [sum_congr fun a _ => e1 a, sum_swap]
    refine sum_congr fun i _ => ?_
    rw [sum_swap]
    refine sum_congr fun j _ => ?_
    rw [sum_mul]
    rfl
  rw [r, sq_tri _ _ fun i j h => by rw [mul_lo hv (by omega), Rat.mul_zero]]
  refine sum_congr fun n _ => ?_
  show pwQ t n * dV v (mulS f g) n k = _
  rw [leib, ← sum_mul]
  refine sum_congr fun i hi => ?_
  have : pwQ t n = pwQ t i * pwQ t (n - i) := by rw [← pwQ_add, show i + (n - i) = n by omega]
  rw [this]
omit hv in
theorem exR_add (s t : Rat) : mulS (exR s) (exR t) = exR (s + t) := by
  have d : ∀ t, derS (exR t) = fun k => t * exR t k := fun t => by
    funext k
    show pwQ t k * t * (fcR k / ((k + 1 : Nat) : Rat)) * ((k + 1 : Nat) : Rat) = t * (pwQ t k * fcR k)
    have n0 := nat_ne (show k + 1 ≠ 0 by omega)
    have : fcR k / ((k + 1 : Nat) : Rat) * ((k + 1 : Nat) : Rat) = fcR k := Rat.div_mul_cancel n0
    grind
  have h : derS (mulS (exR s) (exR t)) = fun k => (s + t) * mulS (exR s) (exR t) k := by
    rw [der_mul, d, d, mulS_smul, mulS_smulR]
    funext k
    show s * _ + t * _ = (s + t) * _
    rw [Rat.add_mul]
  funext k
  induction k with
  | zero =>
    show 0 + (1 : Rat) * 1 * (1 * 1) = 1 * 1
    decide +kernel
  | succ k ih =>
    have n0 := nat_ne (show k + 1 ≠ 0 by omega)
    have h1 : mulS (exR s) (exR t) (k + 1) * ((k + 1 : Nat) : Rat) = (s + t) * mulS (exR s) (exR t) k := congrFun h k
    have h2 : exR (s + t) (k + 1) * ((k + 1 : Nat) : Rat) = (s + t) * exR (s + t) k := congrFun (d (s + t)) k
    rw [ih, ← h2] at h1
    have : ∀ {a b c : Rat}, c ≠ 0 → a * c = b * c → a = b := fun {a b c} hc e => by
      have h : c * c⁻¹ = 1 := Rat.mul_inv_cancel c hc
      have : a * c * c⁻¹ = b * c * c⁻¹ := by rw [e]
      rw [Rat.mul_assoc, Rat.mul_assoc, h, Rat.mul_one, Rat.mul_one] at this
      exact this
    exact this n0 h1
theorem eN_eN (u : Ser) (s t : Rat) {N k : Nat} (hk : k < N) : eN v (eN v u t N) s N k = eN v u (s + t) N k := by
  have e : ∀ j, pwQ s j * dV v (eN v u t N) j k = sumN (fun i => exR s j * exR t i * lP v u (j + i) k) N := fun j => by
    show pwQ s j * (lP v (fun k => sumN (fun i => pwQ t i * dV v u i k) N) j k * fcR j) = _
    rw [lP_sum v (fun i k => pwQ t i * dV v u i k) N j, ← sum_mulR, ← sum_mul]
    refine sum_congr fun i _ => ?_
    have e2 : (fun k => pwQ t i * dV v u i k) = fun k => exR t i * lP v u i k := by
      funext k
      show pwQ t i * (lP v u i k * fcR i) = pwQ t i * fcR i * _
      grind
    show pwQ s j * (lP v (fun k => pwQ t i * dV v u i k) j k * fcR j) = _
    rw [e2, lP_smul, lP_lP, Nat.add_comm i j]
    show pwQ s j * (exR t i * lP v u (j + i) k * fcR j) = pwQ s j * fcR j * exR t i * _
    grind
  have lo : ∀ i j, N ≤ i + j → exR s i * exR t j * lP v u (i + j) k = 0 := fun i j h => by
    rw [lP_low hv (i + j) k (by omega) (by omega), Rat.mul_zero]
  show sumN (fun j => pwQ s j * dV v (eN v u t N) j k) N = _
  rw [sum_congr fun j _ => e j, sq_tri _ _ lo]
  refine sum_congr fun n _ => ?_
  have h1 : sumN (fun i => exR s i * exR t (n - i) * lP v u (i + (n - i)) k) (n + 1) = sumN (fun i => exR s i * exR t (n - i) * lP v u n k) (n + 1) := sum_congr fun i hi => by rw [show i + (n - i) = n by omega]
  rw [h1, sum_mulR]
  have h2 : sumN (fun i => exR s i * exR t (n - i)) (n + 1) = exR (s + t) n := congrFun (exR_add s t) n
  rw [h2]
  show pwQ (s + t) n * fcR n * _ = pwQ (s + t) n * (_ * fcR n)
  grind
theorem eN_add (f g : Ser) (t : Rat) (N k : Nat) : eN v (addS f g) t N k = eN v f t N k + eN v g t N k := by
  show sumN _ N = sumN _ N + sumN _ N
  rw [← sum_add]
  refine sum_congr fun i _ => ?_
  show pwQ t i * (lP v (addS f g) i k * fcR i) = _
  rw [lP_add]
  show pwQ t i * ((lP v f i k + lP v g i k) * fcR i) = pwQ t i * (lP v f i k * fcR i) + pwQ t i * (lP v g i k * fcR i)
  grind
theorem eN_const (c t : Rat) {N : Nat} (hN : 0 < N) (k : Nat) : eN v (fun n => c * oneS n) t N k = c * oneS k := by
  obtain ⟨N, rfl⟩ : ∃ M, N = M + 1 := ⟨N - 1, by omega⟩
  have d : derS (fun n => c * oneS n) = fun _ => 0 := by
    funext n
    show c * oneS (n + 1) * _ = 0
    have : oneS (n + 1) = 0 := rfl
    rw [this, Rat.mul_zero, Rat.zero_mul]
  have l : ∀ i, lP v (fun n => c * oneS n) (i + 1) = fun _ => 0 := fun i => by
    induction i with
    | zero =>
      show lS v _ = _
      unfold lS
      have e : lP v (fun n => c * oneS n) 0 = fun n => c * oneS n := rfl
      rw [e, d]
      funext k
      exact sum_zero fun _ _ => Rat.mul_zero _
    | succ i ih =>
      show lS v (lP v _ (i + 1)) = _
      rw [ih, lS_zero]
  show sumN _ (N + 1) = _
  rw [sum_first, sum_zero fun i _ => by
    show pwQ t (i + 1) * (lP v _ (i + 1) k * _) = 0
    rw [l i, Rat.zero_mul, Rat.mul_zero]]
  rw [dV_zero]
  show 1 * (c * oneS k) + 0 = _
  rw [Rat.one_mul, Rat.add_zero]
theorem eN_x0 (t : Rat) {N : Nat} (hN : 0 < N) : eN v xS t N 0 = 0 := by
  obtain ⟨N, rfl⟩ : ∃ M, N = M + 1 := ⟨N - 1, by omega⟩
  show sumN _ (N + 1) = 0
  refine sum_zero fun i _ => ?_
  match i with
  | 0 => rw [dV_zero]; exact Rat.mul_zero _
  | i + 1 => rw [dV_lo hv (by omega) (by omega), Rat.mul_zero]
theorem eN_cmp (t : Rat) {N : Nat} : ∀ k u, k < N → eN v u t N k = cmpS u (eN v xS t N) k := by
  intro k
  induction k using Nat.strongRecOn with
  | _ k ih =>
    intro u hk
    have F0 := eN_x0 hv t (N := N) (by omega)
    have e : u = addS (fun n => u 0 * oneS n) (mulS xS fun n => u (n + 1)) := by
      funext n
      match n with
      | 0 =>
        show u 0 = u 0 * 1 + (0 + (0 : Rat) * _)
        rw [Rat.mul_one, Rat.zero_mul, Rat.add_zero, Rat.add_zero]
      | n + 1 =>
        show u (n + 1) = u 0 * 0 + mulS xS (fun n => u (n + 1)) (n + 1)
        rw [mulS_comm, mulS_x, Rat.mul_zero, Rat.zero_add]
    have c1 : cmpS (fun n => u 0 * oneS n) (eN v xS t N) k = u 0 * oneS k := by
      have : ∀ c : Rat, cmpS (fun n => c * oneS n) (eN v xS t N) k = c * cmpS oneS (eN v xS t N) k := fun c => by
        show sumN (fun j => c * oneS j * powS (eN v xS t N) j k) (k + 1) = c * sumN _ (k + 1)
        rw [← sum_mul]
        exact sum_congr fun j _ => by grind
      rw [this, cmpS_one]
    have rhs : cmpS u (eN v xS t N) k = u 0 * oneS k + mulS (eN v xS t N) (cmpS (fun n => u (n + 1)) (eN v xS t N)) k := by
      rw [show cmpS u (eN v xS t N) k = cmpS (addS (fun n => u 0 * oneS n) (mulS xS fun n => u (n + 1))) (eN v xS t N) k by rw [← e], cmpS_add, cmpS_mul F0]
      show _ + _ = _
      rw [c1]
      congr 1
      refine sum_congr fun i hi => ?_
      rcases Nat.eq_zero_or_pos i with rfl | i1
      · rw [F0, Rat.zero_mul, show cmpS xS (eN v xS t N) 0 = xS 0 from cmpS_zero]
        exact Rat.zero_mul _
      · rw [cmpS_xl _ i i1]
    have lhs : eN v u t N k = u 0 * oneS k + mulS (eN v xS t N) (eN v (fun n => u (n + 1)) t N) k := by
      rw [show eN v u t N k = eN v (addS (fun n => u 0 * oneS n) (mulS xS fun n => u (n + 1))) t N k by rw [← e], eN_add hv, eN_const hv _ _ (by omega), eN_mul hv _ _ _ hk]
    rw [lhs, rhs]
    congr 1
    refine sum_congr fun i hi => ?_
    rcases Nat.eq_zero_or_pos i with rfl | i1
    · rw [F0, Rat.zero_mul, Rat.zero_mul]
    · rw [ih (k - i) (by omega) _ (by omega)]
/-- the orbit of a flow -/
theorem eN_orb (m : Rat) {N k : Nat} (hk : k < N) : cmpS (eN v xS m N) (eN v xS 1 N) k = eN v xS (m + 1) N k := by
  rw [← eN_cmp hv 1 k _ hk, eN_eN hv xS 1 m hk, Rat.add_comm]
theorem eN_to (u : Ser) (t : Rat) {N k : Nat} (hk : k < N) (k1 : 1 ≤ k) : eN v u t N k = sumN (fun i => pwQ t i * dV v u i k) k := 
  sum_more (by omega) fun i hi => by rw [dV_lo hv (by omega) hi, Rat.mul_zero]
end
theorem lP_sc (v u : Ser) (q : Rat) : ∀ i, lP (fun k => v k * q) u i = fun k => lP v u i k * pwQ q i
  | 0 => by
    funext k
    exact (Rat.mul_one _).symm
  | i + 1 => by
    show lS _ (lP _ u i) = _
    rw [lP_sc v u q i]
    funext k
    show sumN (fun a => v a * q * (lP v u i (k - a + 1) * pwQ q i * ((k - a + 1 : Nat) : Rat))) (k + 1) = sumN (fun a => v a * (lP v u i (k - a + 1) * ((k - a + 1 : Nat) : Rat))) (k + 1) * (pwQ q i * q)
    rw [← sum_mulR]
    exact sum_congr fun a _ => by grind
theorem dV_sc (v u : Ser) (q : Rat) (i k : Nat) : dV (fun k => v k * q) u i k = dV v u i k * pwQ q i := by
  show lP _ u i k * _ = lP v u i k * _ * _
  rw [lP_sc]
  grind
end Kx
end
section
set_option maxHeartbeats 4000000
namespace Kx
open PySem PySem.Spec PyProof.Rows L2 RZ
/-! ### sizes of drawn slow steps, and of their drawn powers -/
theorem dq_of {q : Rat} {L B : Nat} (d : q.den ∣ L) (h : q.num.natAbs * L < 2 ^ B) : Dq L B q := by
  refine ⟨q.num * ((L : Int) / (q.den : Int)), (up_val d).symm, ?_⟩
  rw [Int.natAbs_mul]
  refine Nat.lt_of_le_of_lt (Nat.mul_le_mul_left _ ?_) h
  rw [← Int.natCast_ediv, Int.natAbs_natCast]
  exact Nat.div_le_self _ _
theorem serS_at (us : List Rat) (k : Nat) : serS us (k + 1) = us.getD k 0 := rfl
theorem gm_tl {rs : List Rat} {d n : Nat} (d0 : 0 < d) (d9 : d ≤ 99) (h : ∀ r ∈ rs, TlQ d r) : Gm (60 * d) 50 (serS (1 :: rs)) n := by
  refine ⟨rfl, fun k hk => ?_⟩
  match k with
  | 0 => exact Dq.one (show 1 < 2 ^ 1 by decide)
  | k + 1 =>
    rw [serS_at]
    show Dq _ _ (rs.getD k 0)
    rw [List.getD_eq_getElem?_getD]
    cases x : rs[k]? with
    | none => exact Dq.zero
    | some q =>
      have t := h q (List.mem_of_getElem? x)
      refine dq_of (Nat.dvd_trans t.1 (Nat.dvd_trans (Nat.dvd_refl _) (by rw [Nat.pow_succ]; exact Nat.dvd_mul_left _ _))) ?_
      have h1 : (60 * d) ^ (k + 1) < (2 ^ 13) ^ (k + 1) := Nat.pow_lt_pow_left (by show _ < 8192; omega) (by omega)
      rw [← Nat.pow_mul] at h1
      have h2 := lt_mul (a := 30) (b := 13 * (k + 1)) (show (q.num).natAbs < 2 ^ 30 by have := t.2; show _ < 1073741824; omega) (show (((60 * d) ^ (k + 1) : Nat) : Int).natAbs < 2 ^ (13 * (k + 1)) by rw [Int.natAbs_natCast]; exact h1)
      rw [Int.natAbs_mul, Int.natAbs_natCast] at h2
      exact Nat.lt_of_lt_of_le h2 (Nat.pow_le_pow_right (by decide) (by omega))
theorem bn_q {t : Rat} (h : NumQ t) {i : Nat} (hi : i < 10) : Dq 151200 23 ((t - (i : Rat)) / ((i + 1 : Nat) : Rat)) := by
  have a : Dq 60 10 t := dq_of h.1 (by have := h.2; show _ < 1024; omega)
  have b : Dq 60 10 ((i : Nat) : Rat) := by
    refine Dq.int (i : Int) ?_
    rw [Int.natAbs_mul, Int.natAbs_natCast, Int.natAbs_natCast]
    show _ < 1024
    omega
  obtain ⟨z, e, l⟩ := a.sub b (show 10 < 11 by decide) (by decide)
  obtain ⟨c, hc⟩ : (i + 1) ∣ 2520 := by
    have : ∀ i, i < 10 → (i + 1) ∣ 2520 := by decide
    exact this i hi
  have n0 := nat_ne (show i + 1 ≠ 0 by omega)
  refine ⟨z * (c : Int), ?_, ?_⟩
  · rw [show (151200 : Nat) = 60 * ((i + 1) * c) by rw [← hc], Rat.natCast_mul, Rat.natCast_mul, Rat.intCast_mul, ← e]
    have e1 : (((c : Nat) : Int) : Rat) = (c : Rat) := rfl
    have e2 : (t - (i : Rat)) / ((i + 1 : Nat) : Rat) * ((i + 1 : Nat) : Rat) = t - (i : Rat) := Rat.div_mul_cancel n0
    rw [e1]
    grind
  · rw [Int.natAbs_mul, Int.natAbs_natCast]
    have c1 : c ≤ 2520 := Nat.le_of_dvd (by decide) ⟨i + 1, by rw [hc, Nat.mul_comm]⟩
    have h1 : z.natAbs * c ≤ z.natAbs * 2520 := Nat.mul_le_mul_left _ c1
    have : z.natAbs < 2048 := l
    show _ < 8388608
    omega
theorem bn_num {t : Rat} (h : NumQ t) : ∀ i, i ≤ 10 → Dq (151200 ^ i) (23 * i + 1) (bnR t i)
  | 0, _ => Dq.one (show 1 < 2 ^ 1 by decide)
  | i + 1, hi => ((bn_num h i (by omega)).mul (bn_q h (show i < 10 by omega))).mono (by omega)
theorem gm_pw {D m n : Nat} {f : Ser} {t : Rat} (h : Gm D m f n) (f1 : f 1 = 1) (n1 : 1 ≤ n) (n11 : n ≤ 11) (ht : NumQ t) : Gm (151200 * D) (m + 190) (pwF f t n) n := by
  refine ⟨pw_00 h.z t n, fun k hk => ?_⟩
  match k, hk with
  | 0, _ =>
    rw [pw_01 h.z f1 t n1]
    exact Dq.one (by rw [Nat.mul_zero, Nat.pow_zero]; decide)
  | k + 1, hk =>
    refine (dq_sum (f := fun i => bnR t i * dfK f i (k + 2)) (B := (m + 183) * (k + 1) + 2) (c := 4) n (fun i hi => ?_) (by omega)).mono (by rw [Nat.add_mul, Nat.add_mul]; omega)
    rcases Nat.lt_or_ge (k + 1) i with c | c
    · rw [df_low h.z f1 i (k + 2) (by omega), Rat.mul_zero]
      exact Dq.zero
    · have a := (bn_num ht i (by omega)).up (M := 151200 ^ (k + 1)) (C := 18 * (k + 1 - i)) (151200 ^ (k + 1 - i)) (by rw [← Nat.pow_add, show i + (k + 1 - i) = k + 1 by omega]) (by
        rw [Nat.pow_mul]
        exact Nat.pow_le_pow_left (by decide) _)
      have b := (h.df f1 (show n ≤ 15 by omega) i).g (k + 1) hk
      have ab := a.mul b
      rw [← Nat.mul_pow] at ab
      refine ab.mono ?_
      have h1 : (m + 16 * i) * (k + 1) ≤ (m + 160) * (k + 1) := Nat.mul_le_mul_right _ (by omega)
      have h2 : (m + 183) * (k + 1) = (m + 160) * (k + 1) + 23 * (k + 1) := by rw [← Nat.add_mul]
      omega
section
variable {P : Program} {w : World} {K : PySem.W.Frag} {mg : Str → Option Value} {base : Heap} {f o0 : Addr} {fd : FuncData}
end
end Kx
end
section
set_option maxHeartbeats 4000000
namespace Kx
open PySem PySem.Spec PyProof.Rows L2 RZ
section
variable (K : PySem.W.Frag) (C : Addr)
end
section
variable {P : Program} {w : World} {K : PySem.W.Frag} {mg : Str → Option Value} {base : Heap} {f C S CF CO CN CP CL CU o0 : Addr} {fd : FuncData}
def spPut (K : PySem.W.Frag) : Sp := fun vs H Q _ => ∃ (x y : V) (qs rs : List Rat) (L B M Z : Nat), vs = [x, y] ∧ Ls K H x qs ∧ Ls K H y rs ∧ qs.length = rs.length ∧ 1 ≤ rs.length ∧ rs.length ≤ 24 ∧ SmL L ∧ B ≤ 100000 ∧ SmL M ∧ Z ≤ 100000 ∧ AllD L B qs ∧ PowD M Z rs ∧ GivesL K H Q (cmpL qs rs)
def spOpS (K : PySem.W.Frag) (S CU : Addr) : Sp := fun vs H Q E => ∃ (x y : V) (qs rs : List Rat), vs = [x, y] ∧ StAt K S H x qs ∧ StAt K S H y rs ∧ (qs.length ≠ rs.length → Air H CU (fs2 "UnlikeOrders" "one" "other" [.int (qs.length : Int), .int (rs.length : Int)]) E) ∧
  (qs.length = rs.length → ∃ L B M Z : Nat, SmL L ∧ B ≤ 100000 ∧ SmL M ∧ Z ≤ 100000 ∧ AllD L B qs ∧ PowD M Z rs ∧ GivesF K S H Q (cmpL qs rs))
section
variable {P : Program} {w : World} {K : PySem.W.Frag} {mg : Str → Option Value} {base : Heap} {f C S CF CO CU o0 : Addr} {fd : FuncData}
theorem scPb : FnScope ["one", "other"] ["one", "other"] (defScope F_put_behind) := ⟨rfl, rfl, rfl, by decide +kernel, rfl, by decide +kernel, by decide +kernel⟩
theorem ok_put (F : Fun K "put_behind" "put_behind" F_put_behind f fd) (UM : Use P w K mg base CX0 3 "mixed" ["factors", "lists"] (spMix K) []) (UT : Use P w K mg base CX0 3 "table_lines" ["numbers"] (spTab K) []) : FnOk P w K mg base CX0 4 f fd ["one", "other"] (spPut K) := by
  refine F.ok scPb (fun vs H Q E h => ?_) (fun cdv A outer s H vs Q E hr h => ?_)
  · obtain ⟨x, y, qs, rs, L, B, M, Z, rfl, _⟩ := h
    rfl
  obtain ⟨x, y, qs, rs, L, B, M, Z, rfl, lx, ly, le, l1, l24, sL, lB, sM, lZ, bq, br, q⟩ := h
  refine ⟨_, pss_one (ps_ret (pe_use UM hr rfl pass0 (pa_cons (pv 0) (pa_cons (pe_use UT hr rfl pass0 (pa_cons (pv 1) pa_nil)) pa_nil)))), ?_⟩
  refine ⟨_, rfl, _, rfl, y, rs, M, Z, rfl, ly, l1, l24, sM, lZ, br, fun b H1 xs s1 nb hb mb => ?_⟩
  refine ⟨x, _, qs, tabL rs, rs.length, L, B, M, Z, rfl, lx.same s1, ⟨b, xs, rfl, hb, mb⟩, by rw [tabL_len]; exact l1, by rw [tabL_len]; omega, by omega, tabL_row, sL, lB, sM, lZ, bq, tabL_d br, fun d H2 ys s2 nd hd md => ?_⟩
  rw [mix_step le] at md
  exact q d H2 ys (s1.trans s2) (s1.free nd) hd md
theorem scSm : FnScope ["self", "other"] ["self", "other"] (defScope C_Step_mul) := ⟨rfl, rfl, rfl, by decide +kernel, rfl, by decide +kernel, by decide +kernel⟩
theorem ok_smul (G : Fun K "__mul__" "Step.__mul__" C_Step_mul f fd) (k : StepK P w K mg base C S CF CO) (UO : Use P w K mg base (L2.CX P w) 3 "check_orders" ["one", "other"] (spCor K CU) []) (UT : Use P w K mg base CX0 4 "put_behind" ["one", "other"] (spPut K) []) (UN : MUse P w K mg base CX0 1 S "numbers" ["self"] (spNuS K S) []) :
    FnOk P w K mg base (L2.CX P w) 8 f fd ["self", "other"] (spOpS K S CU) := by
  refine G.okX scSm (fun vs H Q E h => ?_) (fun cdv A outer s H vs Q E hr h => ?_)
  · obtain ⟨x, y, qs, rs, rfl, _⟩ := h
    rfl
  obtain ⟨v, u, qs, rs, rfl, hR, hS, h1, h2⟩ := h
  obtain ⟨x, dx, b, xs, fs, ev, hx, hb, nx, f1, f2, l2, l24⟩ := hR.num
  obtain ⟨y, dy, c, ys, gs, eu, hy, hc, ny, g1, g2, m2, m24⟩ := hS.num
  have g4 : gs.lookup ("numbers" : Str) = none := by
    obtain ⟨_, _, _, _, _, _, _, e, h, _⟩ := hS
    rw [eu] at e
    obtain rfl := V.ref.inj e
    rw [hy] at h
    cases h
    rfl
  obtain ⟨fI, fdI, M, FI, bI⟩ := k.ini
  refine ⟨_, pss_cons (ps_expr (pe_use (E := E) UO (hr.mono (by decide)) rfl (passes_call (takes_of rfl rfl rfl rfl) (fun _ _ _ _ h => h)) (pa_cons (pv 0) (pa_cons (pv 1) pa_nil))))
    (pss_one (ps_ret (pe_make (E := E) M FI hr rfl k.m bI .nil (passes_call (takes_of rfl rfl rfl rfl) (fun _ _ _ _ h => h)) (pa_cons (pe_use UT (hr.mono (by decide)) rfl pass0 (pa_cons (pe_fld (pv 0) rfl) (pa_cons (pe_mu0 UN (pv 1) (hr.mono (by decide)) pass0) pa_nil))) pa_nil)))), ?_⟩
  subst ev
  subst eu
  refine ⟨_, rfl, _, rfl, .ref x, .ref y, (qs.length : Int), (rs.length : Int), rfl, ⟨x, S, dx, fs, rfl, hx, k.c, k.nA _ (by simp [stN]), f2⟩, ⟨y, S, dy, gs, rfl, hy, k.c, k.nA _ (by simp [stN]), g2⟩, fun e => ?_, fun e => h1 (fun z => e (by rw [z]))⟩
  have le : qs.length = rs.length := by omega
  obtain ⟨L, B, M, Z, sL, lB, sM, lZ, bq, br, gv⟩ := h2 le
  refine ⟨_, rfl, x, S, dx, _, _, rfl, hx, k.c, k.nA _ (by simp [stN]), f1, _, rfl, y, dy, _, rfl, hy, g4, .ref y, rs, rfl, hS, fun d H1 zs s1 n1 e1 m1 => ?_⟩
  refine ⟨_, _, qs, rs, L, B, M, Z, rfl, ⟨b, xs, rfl, s1 _ _ hb, nx.same s1⟩, ⟨d, zs, rfl, e1, m1⟩, le, by omega, m24, sL, lB, sM, lZ, bq, br, fun d2 H2 ws s2 n2 e2 m2 => ?_⟩
  exact step_new (s1.trans s2) (.inl e2) m2 (by rw [cmpL_len]; exact l2) (by rw [cmpL_len]; exact l24) gv
end
end
end Kx
end
section
set_option maxHeartbeats 4000000
namespace Kx
open PySem PySem.Spec PyProof.Rows L2 RZ
theorem ser_L {n : Nat} {f : Ser} {us : List Rat} (h : us = toL n f) : EqTo n (ser us) f := by
  subst h
  exact ser_toL
theorem bhdL_eq {n : Nat} {us rs : List Rat} {u f : Ser} (l : us.length = n) (h : EqTo n (ser us) u) (h' : EqTo n (serS rs) f) : bhdL us rs = toL n (cmpS u f) := by
  unfold bhdL
  rw [l]
  exact toL_eq (h.cmp h')
theorem cmpL_eq {n : Nat} {qs rs : List Rat} {u f : Ser} (l : qs.length = n) (h : EqTo (n + 1) (serS qs) u) (h' : EqTo (n + 1) (serS rs) f) : cmpL qs rs = toT n (cmpS u f) := by
  unfold cmpL
  rw [l]
  exact toT_eq (h.cmp h')
theorem bhd_mul {us ws rs : List Rat} (l : us.length = ws.length) : bhdL (mulL us ws) rs = mulL (bhdL us rs) (bhdL ws rs) := by
  rw [bhdL_eq (n := us.length) (by rw [mulL_len]) (by rw [mulL_ser]; exact ser_toL) (fun _ _ => rfl), cmpS_mul (serS_zero rs)]
  unfold bhdL
  rw [← l, mulL_toL]
theorem ser_take (us : List Rat) (m : Nat) : EqTo m (ser (us.take m)) (ser us) := fun i hi => by
  show List.getD _ _ _ = List.getD _ _ _
  rw [List.getD_eq_getElem?_getD, List.getD_eq_getElem?_getD, List.getElem?_take, if_pos hi]
theorem serS_take (qs : List Rat) (m : Nat) : EqTo (m + 1) (serS (qs.take m)) (serS qs) := ser_take (0 :: qs) (m + 1)
theorem bhd_take {us rs : List Rat} {m : Nat} (h : m + 1 ≤ us.length) : bhdL (us.take (m + 1)) (rs.take m) = (bhdL us rs).take (m + 1) := by
  rw [bhdL_eq (n := m + 1) (by rw [List.length_take]; omega) (ser_take us (m + 1)) (serS_take rs m)]
  unfold bhdL
  rw [toL_take _ h]
theorem cmp_take {qs rs : List Rat} {m : Nat} (h : m ≤ qs.length) : cmpL (qs.take m) (rs.take m) = (cmpL qs rs).take m := by
  rw [cmpL_eq (n := m) (by rw [List.length_take]; omega) (serS_take qs m) (serS_take rs m)]
  unfold cmpL
  rw [toT_take _ h]
theorem bhd_still (us : List Rat) (n : Nat) : bhdL us (1 :: List.replicate n 0) = us := by
  unfold bhdL
  rw [serS_still, cmpS_xr, toL_ser]
theorem cmp_still (qs : List Rat) (n : Nat) : cmpL qs (1 :: List.replicate n 0) = qs := by
  unfold cmpL
  rw [serS_still, cmpS_xr, toT_serS]
theorem still_cmp (qs : List Rat) (n : Nat) (h : n + 1 = qs.length) : cmpL (1 :: List.replicate n 0) qs = qs := by
  unfold cmpL
  rw [serS_still, List.length_cons, List.length_replicate, h]
  refine Eq.trans ?_ (toT_serS qs)
  exact List.map_congr_left fun i _ => cmpS_xl (serS qs) (i + 1) (Nat.succ_pos i)
theorem cmpS0 {u f : Ser} (h : u 0 = 0) : cmpS u f 0 = 0 := by rw [cmpS_zero, h]
theorem serS_cmp (qs rs : List Rat) : EqTo (qs.length + 1) (serS (cmpL qs rs)) (cmpS (serS qs) (serS rs)) := by
  unfold cmpL
  exact serS_toT (cmpS0 (serS_zero qs))
theorem cmp_assoc {qs rs ts : List Rat} (l : qs.length = rs.length) : cmpL (cmpL qs rs) ts = cmpL qs (cmpL rs ts) := by
  rw [cmpL_eq (n := qs.length) (cmpL_len qs rs) (serS_cmp qs rs) (fun _ _ => rfl), cmpS_assoc (serS_zero rs) (serS_zero ts), cmpL_eq (n := qs.length) rfl (fun _ _ => rfl) (by rw [l]; exact serS_cmp rs ts)]
theorem bhd_assoc {us qs rs : List Rat} (l : us.length = qs.length + 1) : bhdL (bhdL us qs) rs = bhdL us (cmpL qs rs) := by
  rw [bhdL_eq (n := us.length) (bhdL_len us qs) (by unfold bhdL; exact ser_toL) (fun _ _ => rfl), cmpS_assoc (serS_zero qs) (serS_zero rs), bhdL_eq (n := us.length) rfl (fun _ _ => rfl) (by rw [l]; exact serS_cmp qs rs)]
/-! ### lines solved, one place after another -/
def colL (rows : List (List Rat)) (k : Nat) : List Rat := rows.map fun r => r.getD k 0
def tt (rows : List (List Rat)) (i k : Nat) : Rat := (rows.getD i []).getD k 0
theorem colL_len (rows : List (List Rat)) (k : Nat) : (colL rows k).length = rows.length := by unfold colL; rw [List.length_map]
theorem col_at (rows : List (List Rat)) (k i : Nat) : ser (colL rows k) i = tt rows i k := by
  show List.getD _ _ _ = _
  unfold colL tt
  rw [List.getD_eq_getElem?_getD, List.getElem?_map, List.getD_eq_getElem?_getD (l := rows)]
  cases h : rows[i]? with
  | none => rfl
  | some r => rfl
def slvL (rows : List (List Rat)) (ws : List Rat) : Nat → List Rat
  | 0 => []
  | k + 1 => slvL rows ws k ++ [(ws.getD k 0 - dotL (slvL rows ws k) (colL rows k)) / tt rows k k]
theorem slvL_len (rows : List (List Rat)) (ws : List Rat) : ∀ k, (slvL rows ws k).length = k
  | 0 => rfl
  | k + 1 => by
    show (slvL rows ws k ++ [_]).length = _
    rw [List.length_append, slvL_len rows ws k]
    rfl
theorem slvL_pre (rows : List (List Rat)) (ws : List Rat) (k : Nat) : ∀ n, k ≤ n → ∀ i, i < k → ser (slvL rows ws n) i = ser (slvL rows ws k) i := by
  intro n h
  induction h with
  | refl => exact fun _ _ => rfl
  | step h ih =>
    rename_i m
    intro i hi
    rw [← ih i hi]
    have l := slvL_len rows ws m
    have h' : k ≤ m := h
    show List.getD (slvL rows ws m ++ [_]) i 0 = List.getD (slvL rows ws m) i 0
    rw [List.getD_eq_getElem?_getD, List.getElem?_append_left (by omega), ← List.getD_eq_getElem?_getD]
theorem slvL_last (rows : List (List Rat)) (ws : List Rat) (k : Nat) : ser (slvL rows ws (k + 1)) k = (ws.getD k 0 - dotL (slvL rows ws k) (colL rows k)) / tt rows k k := by
  show List.getD (slvL rows ws k ++ [_]) k 0 = _
  have l := slvL_len rows ws k
  rw [List.getD_eq_getElem?_getD, List.getElem?_append_right (by omega), l, Nat.sub_self]
  rfl
theorem dot_pre {rows : List (List Rat)} {ws : List Rat} {n k : Nat} (l : rows.length = n) (hk : k ≤ n) (c : Nat) : dotL (slvL rows ws k) (colL rows c) = sumN (fun i => ser (slvL rows ws n) i * tt rows i c) k := by
  unfold dotL
  rw [slvL_len, colL_len, l, Nat.min_eq_left hk, dotT_sum]
  exact sum_congr fun i hi => by rw [slvL_pre rows ws k n hk i hi, col_at]
/-- the factors mix the lines to what is wanted -/
theorem slv_mix {rows : List (List Rat)} {ws : List Rat} {n : Nat} (l : rows.length = n) (lw : ws.length = n) (low : ∀ i k, k < i → i < n → tt rows i k = 0) (dg : ∀ k, k < n → tt rows k k ≠ 0) : mixL n (slvL rows ws n) rows = ws := by
  apply List.ext_getElem?
  intro k
  rcases Nat.lt_or_ge k n with c | c
  · unfold mixL
    rw [List.getElem?_map, List.getElem?_range c]
    show some (dotL (slvL rows ws n) (colL rows k)) = _
    rw [dot_pre l (Nat.le_refl n)]
    have e1 : sumN (fun i => ser (slvL rows ws n) i * tt rows i k) n = sumN (fun i => ser (slvL rows ws n) i * tt rows i k) (k + 1) := by
      have : ∀ m, k + 1 ≤ m → m ≤ n → sumN (fun i => ser (slvL rows ws n) i * tt rows i k) m = sumN (fun i => ser (slvL rows ws n) i * tt rows i k) (k + 1) := by
        intro m h
        induction h with
        | refl => exact fun _ => rfl
        | step h ih =>
          rename_i m
          intro hm
          show sumN _ m + ser (slvL rows ws n) m * tt rows m k = _
          have h' : k + 1 ≤ m := h
          rw [ih (by omega), low m k (by omega) (by omega), Rat.mul_zero, Rat.add_zero]
      exact this n (by omega) (Nat.le_refl _)
    rw [e1]
    show some (sumN _ k + ser (slvL rows ws n) k * tt rows k k) = _
    rw [← dot_pre l (by omega) k, slvL_pre rows ws (k + 1) n (by omega) k (by omega), slvL_last, Rat.div_mul_cancel (dg k c)]
    have ew := List.getElem?_eq_getElem (l := ws) (i := k) (by omega)
    rw [List.getD_eq_getElem?_getD, ew]
    show some (_ + (ws[k] - _)) = some ws[k]
    congr 1
    grind
  · rw [List.getElem?_eq_none (by rw [mixL_len]; exact c), List.getElem?_eq_none (by omega)]
/-! ### steps turned back -/
def invL (rs : List Rat) : List Rat := slvL (tabL rs) (stL rs.length) rs.length
theorem invL_len (rs : List Rat) : (invL rs).length = rs.length := slvL_len _ _ _
theorem tt_tab {rs : List Rat} {i k : Nat} (hi : i < rs.length) (hk : k < rs.length) : tt (tabL rs) i k = powS (serS rs) (i + 1) (k + 1) := by
  have e : (tabL rs).getD i [] = (powL (0 :: rs) i).drop 1 := by
    unfold tabL
    rw [List.getD_eq_getElem?_getD, List.getElem?_map, List.getElem?_range hi]
    rfl
  unfold tt
  rw [e]
  exact pow_at hk
theorem rat_ne {a b : Rat} (ha : a ≠ 0) (hb : b ≠ 0) : a * b ≠ 0 := fun h => by
  have h2 : a * b / b = 0 := by rw [h, Rat.div_def, Rat.zero_mul]
  rw [Rat.mul_div_cancel hb] at h2
  exact ha h2
/-- the lead's powers stand on the diagonal -/
theorem pow_dg {f : Ser} (f0 : f 0 = 0) : ∀ k, powS f (k + 1) (k + 1) = powS f k k * f 1 := fun k => by
  show sumN (fun i => powS f k i * f (k + 1 - i)) (k + 1 + 1) = _
  show sumN (fun i => powS f k i * f (k + 1 - i)) (k + 1) + powS f k (k + 1) * f (k + 1 - (k + 1)) = _
  rw [Nat.sub_self, f0, Rat.mul_zero, Rat.add_zero]
  show sumN (fun i => powS f k i * f (k + 1 - i)) k + powS f k k * f (k + 1 - k) = _
  rw [sum_zero fun i hi => by rw [powS_low f0 k i hi, Rat.zero_mul], Rat.zero_add, show k + 1 - k = 1 by omega]
theorem pow_dg_ne {f : Ser} (f0 : f 0 = 0) (h : f 1 ≠ 0) : ∀ k, powS f k k ≠ 0
  | 0 => by
    show (if (0 : Nat) = 0 then (1 : Rat) else 0) ≠ 0
    rw [if_pos rfl]
    decide
  | k + 1 => by
    rw [pow_dg f0]
    exact rat_ne (pow_dg_ne f0 h k) h
def Trn (rs : List Rat) : Prop := serS rs 1 ≠ 0
theorem inv_cmp {rs : List Rat} (l1 : 1 ≤ rs.length) (h : Trn rs) : cmpL (invL rs) rs = stL rs.length := by
  rw [← mix_step (invL_len rs)]
  refine slv_mix (tabL_len rs) (stL_len l1) (fun i k hk hi => ?_) (fun k hk => ?_)
  · rw [tt_tab hi (by omega)]
    exact powS_low (serS_zero rs) _ _ (by omega)
  · rw [tt_tab hk hk]
    exact pow_dg_ne (serS_zero rs) h _
theorem stL_eq {n : Nat} (h : 1 ≤ n) : serS (stL n) = xS := serS_still (n - 1)
theorem cmp_st (qs : List Rat) (n : Nat) : cmpL qs (stL n) = qs := cmp_still qs (n - 1)
theorem st_cmp (qs : List Rat) (h : 1 ≤ qs.length) : cmpL (stL qs.length) qs = qs := still_cmp qs (qs.length - 1) (by omega)
theorem cmp_lead {qs rs : List Rat} (l : qs.length = rs.length) (l1 : 1 ≤ qs.length) : serS (cmpL qs rs) 1 = serS qs 1 * serS rs 1 := by
  rw [serS_cmp qs rs 1 (by omega)]
  show sumN (fun j => serS qs j * powS (serS rs) j 1) 2 = _
  show (0 : Rat) + serS qs 0 * powS (serS rs) 0 1 + serS qs 1 * powS (serS rs) 1 1 = _
  rw [powS_one, show serS qs 0 = 0 from rfl, Rat.zero_mul, Rat.add_zero, Rat.zero_add]
theorem inv_trn {rs : List Rat} (l1 : 1 ≤ rs.length) (h : Trn rs) : serS (invL rs) 1 * serS rs 1 = 1 := by
  rw [← cmp_lead (invL_len rs) (by rw [invL_len]; exact l1), inv_cmp l1 h]
  rfl
theorem inv_turn {rs : List Rat} (l1 : 1 ≤ rs.length) (h : Trn rs) : Trn (invL rs) := fun z => by
  have := inv_trn l1 h
  rw [z, Rat.zero_mul] at this
  exact absurd this (by decide)
/-- turned back twice -/
theorem inv_inv {rs : List Rat} (l1 : 1 ≤ rs.length) (h : Trn rs) : invL (invL rs) = rs := by
  have e1 := inv_cmp l1 h
  have e2 := inv_cmp (rs := invL rs) (by rw [invL_len]; exact l1) (inv_turn l1 h)
  have l : (invL (invL rs)).length = rs.length := by rw [invL_len, invL_len]
  have := cmp_assoc (qs := invL (invL rs)) (rs := invL rs) (ts := rs) (by rw [l, invL_len])
  rw [e2, e1, cmp_st, invL_len, st_cmp rs l1] at this
  exact this.symm
theorem cmp_inv {rs : List Rat} (l1 : 1 ≤ rs.length) (h : Trn rs) : cmpL rs (invL rs) = stL rs.length := by
  have e2 := inv_cmp (rs := invL rs) (by rw [invL_len]; exact l1) (inv_turn l1 h)
  rw [inv_inv l1 h, invL_len] at e2
  exact e2
/-- there is one alone -/
theorem inv_uni {xs rs : List Rat} (l : xs.length = rs.length) (l1 : 1 ≤ rs.length) (h : Trn rs) (e : cmpL xs rs = stL rs.length) : xs = invL rs := by
  have a := cmp_assoc (qs := xs) (rs := rs) (ts := invL rs) l
  rw [e, cmp_inv l1 h, cmp_st] at a
  have z := st_cmp (invL rs) (by rw [invL_len]; exact l1)
  rw [invL_len] at z
  rw [z] at a
  exact a.symm
theorem cmp_trn {qs rs : List Rat} (l : qs.length = rs.length) (l1 : 1 ≤ qs.length) (h : Trn qs) (h' : Trn rs) : Trn (cmpL qs rs) := by
  show serS (cmpL qs rs) 1 ≠ 0
  rw [cmp_lead l l1]
  exact rat_ne h h'
theorem inv_mul {qs rs : List Rat} (l : qs.length = rs.length) (l1 : 1 ≤ qs.length) (h : Trn qs) (h' : Trn rs) : invL (cmpL qs rs) = cmpL (invL rs) (invL qs) := by
  symm
  refine inv_uni (by rw [cmpL_len, cmpL_len, invL_len]; exact l.symm) (by rw [cmpL_len]; exact l1) (cmp_trn l l1 h h') ?_
  rw [cmp_assoc (by rw [invL_len, invL_len]; exact l.symm), ← cmp_assoc (qs := invL qs) (rs := qs) (ts := rs) (invL_len qs), inv_cmp l1 h, l, st_cmp rs (by omega), inv_cmp (by omega) h', cmpL_len, l]
theorem stL_take {n m : Nat} (h1 : 1 ≤ m) (h : m ≤ n) : (stL n).take m = stL m := by
  unfold stL
  obtain ⟨m', rfl⟩ : ∃ m', m = m' + 1 := ⟨m - 1, by omega⟩
  rw [List.take_succ_cons, List.take_replicate]
  congr 2
  omega
theorem inv_take {rs : List Rat} {m : Nat} (m1 : 1 ≤ m) (hm : m ≤ rs.length) (h : Trn rs) : invL (rs.take m) = (invL rs).take m := by
  have lt : (rs.take m).length = m := by rw [List.length_take]; omega
  have ht : Trn (rs.take m) := by
    show serS _ 1 ≠ 0
    rw [serS_take rs m 1 (by omega)]
    exact h
  symm
  refine inv_uni (by rw [List.length_take, invL_len, List.length_take]) (by omega) ht ?_
  rw [cmp_take (by rw [invL_len]; exact hm), inv_cmp (by omega) h, lt, stL_take m1 hm]
/-- done so many times -/
def itL (qs : List Rat) : Nat → List Rat
  | 0 => stL qs.length
  | k + 1 => cmpL qs (itL qs k)
theorem itL_len {qs : List Rat} (h : 1 ≤ qs.length) : ∀ k, (itL qs k).length = qs.length
  | 0 => stL_len h
  | k + 1 => cmpL_len _ _
theorem itL_one {qs : List Rat} : itL qs 1 = qs := cmp_st qs _
theorem itL_add {qs : List Rat} (h : 1 ≤ qs.length) (a : Nat) : ∀ b, itL qs (b + a) = cmpL (itL qs b) (itL qs a)
  | 0 => by
    rw [Nat.zero_add]
    show _ = cmpL (stL qs.length) (itL qs a)
    have := st_cmp (itL qs a) (by rw [itL_len h]; exact h)
    rw [itL_len h] at this
    exact this.symm
  | b + 1 => by
    rw [Nat.add_right_comm b 1 a]
    show cmpL qs (itL qs (b + a)) = cmpL (cmpL qs (itL qs b)) (itL qs a)
    rw [itL_add h a b, cmp_assoc (by rw [itL_len h])]
theorem itL_snoc {qs : List Rat} (h : 1 ≤ qs.length) (k : Nat) : itL qs (k + 1) = cmpL (itL qs k) qs := by
  have := itL_add h 1 k
  rw [itL_one] at this
  exact this
theorem it_inv {qs : List Rat} (l1 : 1 ≤ qs.length) (h : Trn qs) : ∀ k, cmpL (itL qs k) (itL (invL qs) k) = stL qs.length
  | 0 => by
    show cmpL (stL qs.length) (stL (invL qs).length) = _
    rw [cmp_st]
  | k + 1 => by
    have li : 1 ≤ (invL qs).length := by rw [invL_len]; exact l1
    rw [itL_snoc l1 k]
    show cmpL (cmpL (itL qs k) qs) (cmpL (invL qs) (itL (invL qs) k)) = _
    rw [cmp_assoc (itL_len l1 k), ← cmp_assoc (qs := qs) (rs := invL qs) (by rw [invL_len]), cmp_inv l1 h]
    have z := st_cmp (itL (invL qs) k) (by rw [itL_len li]; exact li)
    rw [itL_len li, invL_len] at z
    rw [z]
    exact it_inv l1 h k
end Kx
end
section
set_option maxHeartbeats 4000000
namespace Kx
open PySem PySem.Spec PyProof.Rows L2 RZ
/-! ### lines solved -/
theorem div_1 (x : Rat) : x / 1 = x := by grind
theorem SmL.left {L M : Nat} (h : SmL (L * M)) : SmL L := ⟨Nat.pos_of_mul_pos_right h.1, Nat.lt_of_le_of_lt (Nat.le_mul_of_pos_right _ (Nat.pos_of_mul_pos_left h.1)) h.2⟩
theorem SmL.right {L M : Nat} (h : SmL (L * M)) : SmL M := SmL.left (by rw [Nat.mul_comm]; exact h)
theorem still_o (n : Nat) : AllO (stL n) := fun q hq => by
  rcases List.mem_cons.mp hq with rfl | hq
  · exact Ok.one
  · obtain rfl := List.eq_of_mem_replicate hq
    exact Ok.zero
theorem pow_dg_one {f : Ser} (f0 : f 0 = 0) (h : f 1 = 1) : ∀ k, powS f k k = 1
  | 0 => rfl
  | k + 1 => by rw [pow_dg f0, pow_dg_one f0 h k, h, Rat.mul_one]
theorem trn_one {rs : List Rat} (h : serS rs 1 = 1) : Trn rs := fun z => by
  rw [h] at z
  exact absurd z (by decide)
def spSolv (K : PySem.W.Frag) : Sp := fun vs H Q _ => ∃ (x y : V) (rows : List (List Rat)) (ws : List Rat) (L B M Z : Nat), vs = [x, y] ∧ Lss K H x rows ∧ Ls K H y ws ∧ rows.length = ws.length ∧ 1 ≤ ws.length ∧ ws.length ≤ 24 ∧ (∀ r ∈ rows, r.length = ws.length) ∧ SmL (L * M) ∧ B + Z + 32 ≤ 100000 ∧
  AllD L B (slvL rows ws ws.length) ∧ (∀ r ∈ rows, AllD M Z r) ∧ AllO ws ∧ (∀ k, k < ws.length → tt rows k k ≠ 0 ∧ (tt rows k k).num.natAbs < 2 ^ 4450) ∧ GivesL K H Q (slvL rows ws ws.length)
abbrev nSv : List Str := ["lines", "wanted", "found", "at", "number", "have", "line"]
theorem slv_d {rows : List (List Rat)} {ws : List Rat} {L B n : Nat} (h : AllD L B (slvL rows ws n)) {k : Nat} (hk : k ≤ n) : AllD L B (slvL rows ws k) := fun q hq => by
  obtain ⟨i, hi⟩ := List.getElem?_of_mem hq
  have l := slvL_len rows ws k
  have hl : i < k := by
    rcases Nat.lt_or_ge i k with c | c
    · exact c
    · rw [List.getElem?_eq_none (by omega)] at hi; cases hi
  have e1 := slvL_pre rows ws k n hk i hl
  have e2 : ser (slvL rows ws k) i = q := by
    show List.getD _ _ _ = q
    rw [List.getD_eq_getElem?_getD, hi]
    rfl
  rw [← e2, ← e1]
  exact h.getD i
section
variable {P : Program} {w : World} {K : PySem.W.Frag} {mg : Str → Option Value} {base : Heap} {f C S CF CO CU o0 : Addr} {fd : FuncData}
theorem scSv : FnScope nSv ["lines", "wanted"] (defScope F_solved) := ⟨rfl, rfl, rfl, by decide +kernel, rfl, by decide +kernel, by decide +kernel⟩
theorem ok_solved (F : Fun K "solved" "solved" F_solved f fd) (me : mg "enumerate" = none) (UD : Use P w K mg base CX0 2 "dot" ["ones", "others"] (spDot K) []) (UF : Use P w K mg base CX0 2 "difference_of" ["one", "other"] (spTwoQ K (· - ·)) []) (UQ : Use P w K mg base CX0 2 "quotient_of" ["one", "other"] (spDivQ K) []) : FnOk P w K mg base CX0 3 f fd ["lines", "wanted"] (spSolv K) := by
  refine F.ok scSv (fun vs H Q E h => ?_) (fun cdv A outer s H vs Q E hr h => ?_)
  · obtain ⟨x, y, rows, ws, L, B, M, Z, rfl, _⟩ := h
    rfl
  obtain ⟨x, y, rows, ws, L, B, M, Z, rfl, ⟨la, ls, rfl, hl, ml⟩, ⟨wa, wv, rfl, hw, mw⟩, lr, l1, l24, sq, sL, bl, ze, zg, zw, dg, q⟩ := h
  refine ⟨_, pss_cons (ps_set (i := 2) scSv.nd rfl (Or.inl rfl) (pe_lst pa_nil))
    (pss_cons (ps_for PassesOwn.never rfl (pi_enumA rfl me (pa_cons (pv 1) pa_nil)) (pg_tup rfl (pgs_cons (pg_name (i := 3) scSv.nd rfl (Or.inr rfl)) (pgs_cons (pg_name (i := 4) scSv.nd rfl (Or.inl rfl)) pgs_nil)))
      (C8.pss_cut (ps_set (i := 5) scSv.nd rfl (Or.inl rfl) (pe_use UD hr rfl pass0 (pa_cons (pv 2) (pa_cons (pe_lc (own := [("line", 6)]) (g := gName 6) (tt := tYes) rfl scSv.nd (pi_list (pv 0)) (blkOk_by (N := nSv) (sc := defScope F_solved) (by decide +kernel)) (fun _ _ _ _ _ => pg_name (i := 6) scSv.nd rfl (Or.inl rfl)) (fun _ _ _ _ _ => pts_nil) (fun _ _ _ _ _ => pe_ix (ixl_at K rfl) (pv 6) (pv 3) (fun _ _ => rfl))) pa_nil))))
      (pss_one (ps_expr (pe_bm PySem.F.plainAttrs_list PySem.F.slot_list_append PySem.F.type_list_append mt_append (pv 2) (pa_cons (pe_use UQ hr rfl pass0 (pa_cons (pe_use UF hr rfl pass0 (pa_cons (pv 4) (pa_cons (pv 5) pa_nil))) (pa_cons (pe_ix ix_list (pe_ix ix_list (pv 0) (pv 3) (fun _ _ => rfl)) (pv 3) (fun _ _ => rfl)) pa_nil))) pa_nil))))))
    (pss_one (ps_ret (pv 2)))), ?_⟩
  have ll := ml.1
  have lw := mw.1
  refine ⟨(by show 0 ≤ sizeLine; decide), fun fb nf => ?_⟩
  have s1 := new_same nf (HO.lst [])
  refine ⟨_, rfl, wa, wv, rfl, .inl ⟨SqL.of (s1 _ _ hw), ?_⟩⟩
  refine for_it (walk_enum (K := K) (a := wa) (xs := wv)) (fun i σ H' => Same H H' ∧ (∃ v3 v4 v5 v6, σ = [some (.ref la), some (.ref wa), some (.ref fb), v3, v4, v5, v6]) ∧ ∃ zs, H' fb = some (.lst zs) ∧ Nl K H' zs (slvL rows ws i)) ⟨s1, ⟨none, none, none, none, rfl⟩, [], upd_same, Nl.nil⟩ (fun i σ H' _ h => SqL.of (h.1 _ _ hw)) ?_ ?_
  · rintro k x σ H2 H3 hk ⟨s2, ⟨v3, v4, v5, v6, rfl⟩, zs, hz, mz⟩ ⟨T, y, z, rfl, hT, rfl, hy, hzz⟩
    obtain rfl : y = .int ((k : Nat) : Int) := (Option.some.inj hy).symm
    have hk' : k < ws.length := by omega
    have s3 := s2.trans (new_same hT (.tup [.int (k : Nat), z]))
    have hz3 := new_same hT (.tup [.int (k : Nat), z]) _ _ hz
    have mz3 := mz.same (new_same hT (.tup [.int (k : Nat), z]))
    obtain ⟨wq, ewq, nwq⟩ := mw.get hzz
    have lz : zs.length = k := by rw [mz.1, slvL_len]
    refine ⟨T, [_, _], rfl, SqT.of upd_same, rfl, _, [_], rfl, _, [], rfl, rfl, ?_⟩
    generalize upd H2 T (.tup [.int (k : Nat), z]) = H3 at s3 hz3 mz3
    have nwq3 := nwq.same s3
    refine ⟨fun σ G => Same H3 G ∧ ∃ hv v6, σ = [some (.ref la), some (.ref wa), some (.ref fb), some (.int (k : Nat)), some z, some hv, v6] ∧ Nq K G hv (dotL (slvL rows ws k) (colL rows k)), ?_, ?_⟩
    · refine ⟨_, rfl, _, rfl, la, rfl, ⟨_, SqL.of (s3 _ _ hl)⟩, fun D nD => ?_⟩
      refine lc_nums (K := K) (walk_list (K := K) (a := la) (xs := ls)) (colL rows k) (by rw [colL_len]; omega) nD (by omega) (fun H' s => SqL.of (s _ _ (s3 _ _ hl))) ?_ (fun H5 cs s5 hD md => ?_)
      · rintro i qi x H4 H5 kk hq s4 ⟨rfl, hx2⟩ hkk
        obtain ⟨r, er, ra, rxs, rfl, hra, nra⟩ := ml.get hx2
        have lr' := sq r (List.mem_of_getElem? er)
        obtain ⟨v, ev, nv⟩ := nra.get' (i := k) (by omega)
        have eq' : r[k]'(by omega) = qi := by
          unfold colL at hq
          rw [List.getElem?_map, er] at hq
          have := Option.some.inj hq
          rw [← this]
          show _ = r.getD k 0
          rw [List.getD_eq_getElem?_getD, List.getElem?_eq_getElem (by omega)]
          rfl
        rw [eq'] at nv
        exact ⟨rfl, _, rfl, _, rfl, ra, rxs, (k : Nat), v, rfl, rfl, SqL.of ((s3.trans s4) _ _ hra), at_of (j := k) rfl ev, hkk v _ (Same.refl _) (nv.same (s3.trans s4))⟩
      · have zc : AllD M Z (colL rows k) := fun p hp => by
          obtain ⟨r, hr', rfl⟩ := List.mem_map.mp hp
          exact (zg r hr').getD k
        refine ⟨.ref fb, .ref D, slvL rows ws k, colL rows k, L, B, M, Z, rfl, ⟨fb, zs, rfl, s5 _ _ hz3, mz3.same s5⟩, ⟨D, cs, rfl, hD, md⟩, by rw [slvL_len, colL_len]; omega, sL.left, by omega, sL.right, by omega, slv_d ze (by omega), zc, fun d H6 s6 n6 e6 => ⟨s5.trans s6, .ref d, _, rfl, .at e6⟩⟩
    · rintro σ G ⟨s4, hv, v6', rfl, nh⟩
      have sG := s3.trans s4
      have hzG := s4 _ _ hz3
      have zc : AllD M Z (colL rows k) := fun p hp => by
        obtain ⟨r, hr', rfl⟩ := List.mem_map.mp hp
        exact (zg r hr').getD k
      have zh : Ok (dotL (slvL rows ws k) (colL rows k)) := (dotL_d (slv_d ze (by omega)) zc (by rw [slvL_len, colL_len]; omega)).ok sL bl
      have ewq' : ws.getD k 0 = wq := by rw [List.getD_eq_getElem?_getD, ewq]; rfl
      have ed : wq - dotL (slvL rows ws k) (colL rows k) = ser (slvL rows ws ws.length) k * tt rows k k := by
        rw [slvL_pre rows ws (k + 1) ws.length (by omega) k (by omega), slvL_last, ewq', Rat.div_mul_cancel (dg k hk').1]
      have zt : Dq M Z (tt rows k k) := by
        have er := List.getElem?_eq_getElem (l := rows) (i := k) (by omega)
        have := (zg _ (List.getElem_mem (l := rows) (n := k) (by omega))).getD k
        unfold tt
        rw [List.getD_eq_getElem?_getD (l := rows), er]
        exact this
      have zd : Ok (wq - dotL (slvL rows ws k) (colL rows k)) := by
        rw [ed]
        exact ((ze.getD k).mul zt).ok sL (by omega)
      obtain ⟨lv, elv, llv⟩ := ml.get' (i := k) (by omega)
      have er := List.getElem?_eq_getElem (l := rows) (i := k) (by omega)
      have lrk := sq _ (List.getElem_mem (l := rows) (n := k) (by omega))
      obtain ⟨ra, rxs, rfl, hra, nra⟩ := llv
      obtain ⟨v, ev, nv⟩ := nra.get' (i := k) (by omega)
      have et : (rows[k]'(by omega))[k]'(by omega) = tt rows k k := by
        unfold tt
        rw [List.getD_eq_getElem?_getD (l := rows), er]
        show _ = (rows[k]'(by omega)).getD k 0
        rw [List.getD_eq_getElem?_getD, List.getElem?_eq_getElem (by omega)]
        rfl
      rw [et] at nv
      refine ⟨_, rfl, .inl ⟨rfl, _, SqL.of hzG⟩, _, rfl, _, rfl, z, hv, wq, dotL (slvL rows ws k) (colL rows k), rfl, nwq3.same s4, nh, ?_, zh, fun d H6 s6 n6 e6 => ?_⟩
      · exact zw wq (List.mem_of_getElem? ewq)
      have sG6 := sG.trans s6
      refine ⟨_, rfl, _, rfl, la, ls, (k : Nat), _, rfl, rfl, SqL.of (sG6 _ _ hl), at_of (j := k) rfl elv, _, rfl, ra, rxs, (k : Nat), v, rfl, rfl, SqL.of (sG6 _ _ hra), at_of (j := k) rfl ev, ?_⟩
      refine ⟨.ref d, v, _, tt rows k k, rfl, .at e6, nv.same sG6, zd, zt.ok sL.right (by omega), (dg k hk').1, (dg k hk').2, fun d2 H7 s7 n7 e7 => ?_⟩
      have s67 := s6.trans s7
      refine ⟨fb, zs, _, rfl, rfl, s67 _ _ hzG, small1000 (by omega), fun b o hb => ?_, ⟨_, _, _, _, rfl⟩, zs ++ [.ref d2], upd_same, ?_⟩
      · rw [upd_ne (fun y => by rw [y, nf] at hb; cases hb)]
        exact (sG.trans s67) b o hb
      · have nb : Nl K H7 (zs ++ [V.ref d2]) (slvL rows ws (k + 1)) := by
          show Nl K H7 _ (slvL rows ws k ++ [(ws.getD k 0 - dotL (slvL rows ws k) (colL rows k)) / tt rows k k])
          rw [ewq']
          exact (mz3.same (s4.trans s67)).snoc (.at e7)
        exact ⟨nb.1, fun j x r h1 h2 => (nb.2 j x r h1 h2).butL (s67 _ _ hzG) (fun b o n h => by rw [upd_ne n]; exact h)⟩
  · rintro σ H2 ⟨s2, ⟨v3, v4, v5, v6, rfl⟩, zs, hz, mz⟩
    rw [lw] at mz
    exact ⟨_, rfl, q fb H2 zs s2 nf hz mz⟩
end
/-! ### turned back -/
def spTrn (K : PySem.W.Frag) : Sp := fun vs H Q _ => ∃ (x : V) (rs : List Rat) (L B M Z : Nat), vs = [x] ∧ Ls K H x rs ∧ 2 ≤ rs.length ∧ rs.length ≤ 24 ∧ Trn rs ∧ (∀ k, k < rs.length → (powS (serS rs) (k + 1) (k + 1)).num.natAbs < 2 ^ 4450) ∧ SmL (L * M) ∧ B + Z + 32 ≤ 100000 ∧ AllD L B (invL rs) ∧ PowD M Z rs ∧ GivesL K H Q (invL rs)
section
variable {P : Program} {w : World} {K : PySem.W.Frag} {mg : Str → Option Value} {base : Heap} {f C S CF CO CU o0 : Addr} {fd : FuncData}
theorem scTrb : FnScope ["numbers"] ["numbers"] (defScope F_turned_back) := ⟨rfl, rfl, rfl, by decide +kernel, rfl, by decide +kernel, by decide +kernel⟩
theorem ok_turned (F : Fun K "turned_back" "turned_back" F_turned_back f fd) (mn : mg "len" = none) (US : Use P w K mg base CX0 3 "solved" ["lines", "wanted"] (spSolv K) []) (UT : Use P w K mg base CX0 3 "table_lines" ["numbers"] (spTab K) []) (UN : Use P w K mg base CX0 1 "still_numbers" ["order"] (spSn K) []) : FnOk P w K mg base CX0 4 f fd ["numbers"] (spTrn K) := by
  refine F.ok scTrb (fun vs H Q E h => ?_) (fun cdv A outer s H vs Q E hr h => ?_)
  · obtain ⟨x, rs, L, B, M, Z, rfl, _⟩ := h
    rfl
  obtain ⟨x, rs, L, B, M, Z, rfl, hx, l2, l24, ht, dgb, sL, bl, ze, zp, q⟩ := h
  refine ⟨_, pss_one (ps_ret (pe_use US hr rfl pass0 (pa_cons (pe_use UT hr rfl pass0 (pa_cons (pv 0) pa_nil)) (pa_cons (pe_use UN (hr.mono (by decide)) rfl pass0 (pa_cons (pe_callB call_len_seq rfl mn PySem.boot_len (pa_cons (pv 0) pa_nil)) pa_nil)) pa_nil)))), ?_⟩
  refine ⟨_, rfl, x, rs, M, Z, rfl, hx, by omega, l24, sL.right, by omega, zp, fun b H1 xs s1 nb hb mb => ?_⟩
  obtain ⟨xa, xv, rfl, hxa, nx⟩ := id hx
  have lx := nx.1
  refine ⟨_, rfl, xa, xv, rfl, .inl (SqL.of (s1 _ _ hxa)), xv.length, rfl, by omega, by omega, fun c H2 ys s2 nc hc mc => ?_⟩
  rw [lx] at mc
  have lst := stL_len (n := rs.length) (by omega)
  refine ⟨.ref b, .ref c, tabL rs, stL rs.length, L, B, M, Z, rfl, ⟨b, xs, rfl, s2 _ _ hb, mb.same s2⟩, ⟨c, ys, rfl, hc, mc⟩, by rw [tabL_len, lst], by omega, by omega, fun r hr' => by rw [tabL_row r hr', lst], sL, bl, ?_, tabL_d zp, still_o _, fun k hk => ?_, fun d H3 zs s3 nd hd md => ?_⟩
  · rw [lst]
    exact ze
  · rw [lst] at hk
    rw [tt_tab hk hk]
    exact ⟨pow_dg_ne (serS_zero rs) ht _, dgb k hk⟩
  · rw [lst] at md
    exact q d H3 zs (s1.trans (s2.trans s3)) (s1.free (s2.free nd)) hd md
end
end Kx
end
section
set_option maxHeartbeats 4000000
namespace Kx
open PySem PySem.Spec PyProof.Rows L2 RZ
/-! ### ~ of an own class -/
section
variable {X : Cx} {CX : CXT} {k : Nat} {C : Addr} {sp : Sp} {E : XK}
theorem un_inv (O : OpM X.prog X.w X.K X.mg X.base CX k C "__invert__" sp) (hr : Room k X.A) (hx : Passes CX X E) : UnR X (unaryOp .Invert) (rUnO C sp E) := by
  intro pins s σ H x v Q I rx h
  obtain ⟨a, dx, fs, rfl, ha, hsp⟩ := h
  obtain ⟨g, fd, ps, h1, h2, F, hb⟩ := O.ex
  cases rx
  obtain ⟨mA, J, _⟩ := ins_get I.hok ha
  obtain ⟨od, J, _⟩ := J.look
  obtain ⟨m, hF⟩ := I.fr
  refine PySem.W.ksp_inv hF I.ok.mod.kin J h1 h2 ?_
  exact run_fn (us := [.ref a]) (vs := [.ref a]) F hr hb .nil hx I (.cons rfl .nil) (by rw [List.append_nil]; exact hsp)
end
/-! ### steps that are turned back and done so many times -/
/-- what turning back may take -/
def BkOk (qs : List Rat) : Prop := ∃ L B M Z : Nat, SmL (L * M) ∧ B + Z + 32 ≤ 100000 ∧ AllD L B (invL qs) ∧ PowD M Z qs ∧ ∀ k, k < qs.length → (powS (serS qs) (k + 1) (k + 1)).num.natAbs < 2 ^ 4450
def fs0 (nm : Str) (ws : List V) : List (Str × V) := match ws with
  | [] => [("code", .str nm)]
  | _ => []
def spCkT (K : PySem.W.Frag) (S CC : Addr) : Sp := fun vs H Q E => ∃ (v : V) (qs : List Rat), vs = [v] ∧ StAt K S H v qs ∧ (Trn qs → Q .non H) ∧ (¬ Trn qs → Air H CC (fs0 "CantTurn" []) E)
def spInv (K : PySem.W.Frag) (S : Addr) : Sp := fun vs H Q _ => ∃ (v : V) (qs : List Rat), vs = [v] ∧ StAt K S H v qs ∧ Trn qs ∧ BkOk qs ∧ GivesF K S H Q (invL qs)
section
variable {P : Program} {w : World} {K : PySem.W.Frag} {mg : Str → Option Value} {base : Heap} {f C S CF CO CU CC o0 : Addr} {fd : FuncData} {H : Hp}
theorem scI0 : FnScope ["self"] ["self"] (defScope C_CantTurn_init) := ⟨rfl, rfl, rfl, by decide +kernel, rfl, by decide +kernel, by decide +kernel⟩
theorem init_C (F : Fun K "__init__" "CantTurn.__init__" C_CantTurn_init f fd) (T : XC K C) (n0 : PySem.W.findIn K (.ref C) "code" = some none) : FnOk P w K mg base CX0 1 f fd ["self"] (spIn C 0 (fs0 "CantTurn")) := by
  refine F.ok scI0 (fun vs H Q E h => ?_) (fun cdv A outer s H vs Q E hr h => ?_)
  · obtain ⟨a, ws, rfl, l, _⟩ := h
    exact congrArg Nat.succ l
  obtain ⟨a, ws, rfl, l, ha, q⟩ := h
  obtain rfl : ws = [] := List.eq_nil_of_length_eq_zero l
  refine ⟨_, pss_one (ps_xst (pv 0) pe_str), ?_⟩
  refine ⟨_, rfl, a, _, rfl, T, n0, .inl ⟨ha, fun e H1 ne he h1 h2 h3 => ?_⟩⟩
  exact q e _ ne he h1 h2 h3
theorem scCkT : FnScope ["step"] ["step"] (defScope F_check_turnable) := ⟨rfl, rfl, rfl, by decide +kernel, rfl, by decide +kernel, by decide +kernel⟩
theorem ok_cturn (G : Fun K "check_turnable" "check_turnable" F_check_turnable f fd) (k : StepK P w K mg base C S CF CO) (k0 : KP K o0 0 1) (mZ : mg "ZERO" = some (.ref o0)) (Z : ErrC P w K mg base "CantTurn" 0 (fs0 "CantTurn") CC) : FnOk P w K mg base (L2.CX P w) 3 f fd ["step"] (spCkT K S CC) := by
  refine G.okX scCkT (fun vs H Q E h => ?_) (fun cdv A outer s H vs Q E hr h => ?_)
  · obtain ⟨v, qs, rfl, _⟩ := h
    rfl
  obtain ⟨v, qs, rfl, hX, h1, h2⟩ := h
  obtain ⟨x, dx, fs, x0, rfl, hx, fl, nq, _⟩ := hX.ld
  obtain ⟨fI, fdI, ps, i1, i2, i3, i4⟩ := Z.i
  refine ⟨_, pss_one (ps_if (pt_cmpR (op_eqD hr.units) (pe_fld (pv 0) rfl) (C8.pe_gc (v := .ref o0) rfl ⟨_, mZ, rfl⟩) (nomark _)) (pss_one (ps_raise rfl (takes_of rfl rfl rfl rfl) (pmk_xo0 Z.T Z.ty i1 i2 i3 (hr.mono (by decide)) i4 pass0 rfl Z.m))) pss_nil), ?_⟩
  refine ⟨_, rfl, x, S, dx, _, _, rfl, hx, k.c, k.nA _ (by simp [stN]), fl, tupQ (serS qs 1), tupQ 0, nq.dp, k0.dp _, rfl, rfl, _, rfl, ?_⟩
  rw [eqv_num]
  by_cases c : serS qs 1 = 0
  · rw [decide_eq_true c]
    exact iteT ⟨(by show 0 ≤ 1000; decide), fun a na => air_of (C := CC) (n := 0) (ws := []) na rfl (h2 fun z => z c)⟩
  · rw [decide_eq_false c]
    exact iteF (h1 c)
theorem scInv : FnScope ["self"] ["self"] (defScope C_Step_invert) := ⟨rfl, rfl, rfl, by decide +kernel, rfl, by decide +kernel, by decide +kernel⟩
theorem ok_invert (G : Fun K "__invert__" "Step.__invert__" C_Step_invert f fd) (k : StepK P w K mg base C S CF CO) (UC : Use P w K mg base (L2.CX P w) 3 "check_turnable" ["step"] (spCkT K S CC) []) (UT : Use P w K mg base CX0 4 "turned_back" ["numbers"] (spTrn K) []) : FnOk P w K mg base (L2.CX P w) 8 f fd ["self"] (spInv K S) := by
  refine G.okX scInv (fun vs H Q E h => ?_) (fun cdv A outer s H vs Q E hr h => ?_)
  · obtain ⟨v, qs, rfl, _⟩ := h
    rfl
  obtain ⟨v, qs, rfl, hX, h1, ⟨L, B, M, Z, sL, lB, zi, zp, dgb⟩, gv⟩ := h
  obtain ⟨x, dx, b, xs, fs, rfl, hx, hb, nx, f1, f2⟩ := hX.nb
  obtain ⟨l2, l24⟩ := hX.le
  obtain ⟨fI, fdI, MM, FI, bI⟩ := k.ini
  refine ⟨_, pss_cons (ps_expr (pe_use (E := E) UC (hr.mono (by decide)) rfl (passes_call (takes_of rfl rfl rfl rfl) (fun _ _ _ _ h => h)) (pa_cons (pv 0) pa_nil)))
    (pss_one (ps_ret (pe_make (E := E) MM FI hr rfl k.m bI .nil (passes_call (takes_of rfl rfl rfl rfl) (fun _ _ _ _ h => h)) (pa_cons (pe_use UT (hr.mono (by decide)) rfl pass0 (pa_cons (pe_fld (pv 0) rfl) pa_nil)) pa_nil)))), ?_⟩
  refine ⟨_, rfl, .ref x, qs, rfl, hX, fun _ => ?_, fun n => absurd h1 n⟩
  refine ⟨_, rfl, x, S, dx, _, _, rfl, hx, k.c, k.nA _ (by simp [stN]), f1, .ref b, qs, L, B, M, Z, rfl, ⟨b, xs, rfl, hb, nx⟩, l2, l24, h1, dgb, sL, lB, zi, zp, fun d H1 zs s1 nd hd md => ?_⟩
  exact step_new s1 (.inl hd) md (by rw [invL_len]; exact l2) (by rw [invL_len]; exact l24) gv
end
end Kx
end
section
set_option maxHeartbeats 4000000
namespace Kx
open PySem PySem.Spec PyProof.Rows L2 RZ
theorem passF {P : Program} {w : World} {X : Cx} : Passes (L2.CX P w) X (fun _ _ _ => False) := fun _ _ _ _ _ _ _ h => by
  obtain ⟨_, _, _, _, _, _, _, _, _, _, _, _, z⟩ := h
  exact z.elim
/-- objects of the class say what they are -/
structure IsS (K : PySem.W.Frag) (S : Addr) : Prop where
  ty : ∀ H a dx fs, H a = some (.ins S dx fs) → TyX K H (.ref a) (.ref S)
  kit : PySem.W.kitOne K (.ref S) (.ref S) = some true
section
variable {P : Program} {w : World} {K : PySem.W.Frag} {mg : Str → Option Value} {base : Heap} {f C S SD CF CO CP CN o0 o1 : Addr} {fd : FuncData}
end
end Kx
end
section
set_option maxHeartbeats 4000000
namespace Kx
open PySem PySem.Spec PyProof.Rows L2 RZ
/-! ### the still step, steps compared -/
def spStil (K : PySem.W.Frag) (S : Addr) : Sp := fun vs H Q _ => ∃ n : Nat, vs = [.int (n : Nat)] ∧ 2 ≤ n ∧ n ≤ 24 ∧ GivesF K S H Q (stL n)
section
variable {P : Program} {w : World} {K : PySem.W.Frag} {mg : Str → Option Value} {base : Heap} {f C S CF CO : Addr} {fd : FuncData} {H : Hp}
theorem scStl : FnScope ["order"] ["order"] (defScope C_Step_still) := ⟨rfl, rfl, rfl, by decide +kernel, rfl, by decide +kernel, by decide +kernel⟩
theorem ok_still (G : Fun K "still" "Step.still" C_Step_still f fd) (k : StepK P w K mg base C S CF CO) (UC : Use P w K mg base (L2.CX P w) 3 "check_order" ["order"] (spCo K CO) []) (UN : Use P w K mg base CX0 1 "still_numbers" ["order"] (spSn K) []) :
    FnOk P w K mg base (L2.CX P w) 8 f fd ["order"] (spStil K S) := by
  refine G.okX scStl (fun vs H Q E h => ?_) (fun cdv A outer s H vs Q E hr h => ?_)
  · obtain ⟨n, rfl, _⟩ := h
    rfl
  obtain ⟨n, rfl, h2, h24, q⟩ := h
  obtain ⟨fI, fdI, M, FI, bI⟩ := k.ini
  refine ⟨_, pss_cons (ps_expr (pe_use (E := E) UC (hr.mono (by decide)) rfl (passes_call (takes_of rfl rfl rfl rfl) (fun _ _ _ _ h => h)) (pa_cons (pv 0) pa_nil)))
    (pss_one (ps_ret (pe_make (E := E) M FI hr rfl k.m bI .nil (passes_call (takes_of rfl rfl rfl rfl) (fun _ _ _ _ h => h)) (pa_cons (pe_use UN (hr.mono (by decide)) rfl pass0 (pa_cons (pv 0) pa_nil)) pa_nil)))), ?_⟩
  refine ⟨_, rfl, .int (n : Nat), true, rfl, .yes (by omega) (by omega), fun _ => ?_, fun z => Bool.noConfusion z⟩
  refine ⟨_, rfl, n, rfl, h2, h24, fun d H1 xs s1 n1 e1 m1 => ?_⟩
  exact step_new s1 (.inl e1) m1 (by rw [List.length_cons, List.length_replicate]; omega) (by rw [List.length_cons, List.length_replicate]; omega) q
theorem rd_inF {vx : V} {qs : List Rat} {E : XK} {R : VK} (hX : StAt K S H vx qs) (h1 : Trn qs) (b : BkOk qs) (q : GivesF K S H R (invL qs)) : rUnO S (spInv K S) E vx H R := by
  obtain ⟨x, dx, _, _, _, _, _, ex, hx, _⟩ := id hX
  exact ⟨x, dx, _, ex, hx, vx, qs, rfl, hX, h1, b, q⟩
end
end Kx
end
section
set_option maxHeartbeats 4000000
namespace Kx
open PySem PySem.Spec PyProof.Rows L2 RZ
/-! ### the series turned back -/
def invS (h : Ser) : Ser := fun n => serS (invL (toT n h)) n
section
variable {h : Ser} (h0 : h 0 = 0) (h1 : h 1 ≠ 0)
include h0 h1
theorem toT_trn {n : Nat} (hn : 1 ≤ n) : Trn (toT n h) := by
  show serS (toT n h) 1 ≠ 0
  rw [serS_toT h0 1 (by omega)]
  exact h1
theorem invS_at {n k : Nat} (hk : k ≤ n) : invS h k = serS (invL (toT n h)) k := by
  match k, hk with
  | 0, _ => rfl
  | k + 1, hk =>
    show serS (invL (toT (k + 1) h)) (k + 1) = _
    rw [← toT_take h hk, inv_take (by omega) (by rw [toT_len]; exact hk) (toT_trn h0 h1 (by omega))]
    exact serS_take _ _ _ (by omega)
theorem inv_x : cmpS (invS h) h = xS := by
  funext n
  rcases Nat.eq_zero_or_pos n with c | c
  · rw [c, cmpS_zero]
    rfl
  · have e1 : EqTo (n + 1) (invS h) (serS (invL (toT n h))) := fun k hk => invS_at h0 h1 (by omega)
    have e2 : EqTo (n + 1) h (serS (toT n h)) := fun k hk => (serS_toT h0 k hk).symm
    rw [EqTo.cmp e1 e2 n (by omega), ← serS_cmp _ _ n (by rw [invL_len, toT_len]; omega), inv_cmp (by rw [toT_len]; exact c) (toT_trn h0 h1 c), toT_len, stL_eq c]
theorem x_inv : cmpS h (invS h) = xS := by
  funext n
  rcases Nat.eq_zero_or_pos n with c | c
  · rw [c, cmpS_zero, h0]
    rfl
  · have e1 : EqTo (n + 1) (invS h) (serS (invL (toT n h))) := fun k hk => invS_at h0 h1 (by omega)
    have e2 : EqTo (n + 1) h (serS (toT n h)) := fun k hk => (serS_toT h0 k hk).symm
    rw [EqTo.cmp e2 e1 n (by omega), ← serS_cmp _ _ n (by rw [toT_len]; omega), cmp_inv (by rw [toT_len]; exact c) (toT_trn h0 h1 c), toT_len, stL_eq c]
theorem xl_eq {f : Ser} (f0 : f 0 = 0) : cmpS xS f = f := by
  funext n
  rcases Nat.eq_zero_or_pos n with c | c
  · rw [c, cmpS_zero, f0]
    rfl
  · exact cmpS_xl f n c
theorem invS_uni {g : Ser} (g0 : g 0 = 0) (e : cmpS g h = xS) : g = invS h := by
  have a := cmpS_assoc (u := g) h0 (g := invS h) rfl
  rw [e, x_inv h0 h1, cmpS_xr, xl_eq h0 h1 rfl] at a
  exact a.symm
/-- what is put before h is found again -/
theorem led_uni {c g : Ser} (e : cmpS c h = g) : c = cmpS g (invS h) := by
  have a := cmpS_assoc (u := c) h0 (g := invS h) rfl
  rw [e, x_inv h0 h1, cmpS_xr] at a
  exact a.symm
theorem led_back (g : Ser) : cmpS (cmpS g (invS h)) h = g := by
  rw [cmpS_assoc (show invS h 0 = 0 from rfl) h0, inv_x h0 h1, cmpS_xr]
theorem inv_one : invS h 1 * h 1 = 1 := by
  have a := congrFun (inv_x h0 h1) 1
  have e : cmpS (invS h) h 1 = invS h 1 * h 1 := by
    show (0 : Rat) + invS h 0 * powS h 0 1 + invS h 1 * powS h 1 1 = _
    rw [powS_one, show invS h 0 = 0 from rfl]
    grind
  rw [e] at a
  exact a
end
/-! ### scaled -/
def scS (a : Rat) (f : Ser) : Ser := fun k => a * f k
def wtS (b : Rat) (f : Ser) : Ser := fun k => f k * pwQ b k
theorem pow_sc (a : Rat) (f : Ser) : ∀ j k, powS (scS a f) j k = pwQ a j * powS f j k
  | 0, k => by show oneS k = 1 * oneS k; rw [Rat.one_mul]
  | j + 1, k => by
    show sumN (fun i => powS (scS a f) j i * (a * f (k - i))) (k + 1) = pwQ a j * a * sumN (fun i => powS f j i * f (k - i)) (k + 1)
    rw [← sum_mul]
    exact sum_congr fun i _ => by rw [pow_sc a f j i]; grind
theorem pow_wt (b : Rat) (f : Ser) : ∀ j k, powS (wtS b f) j k = powS f j k * pwQ b k
  | 0, k => by
    show oneS k = oneS k * pwQ b k
    rcases Nat.eq_zero_or_pos k with c | c
    · rw [c]; show oneS 0 = oneS 0 * 1; rw [Rat.mul_one]
    · rw [show oneS k = 0 from if_neg (by omega), Rat.zero_mul]
  | j + 1, k => by
    show sumN (fun i => powS (wtS b f) j i * (f (k - i) * pwQ b (k - i))) (k + 1) = sumN (fun i => powS f j i * f (k - i)) (k + 1) * pwQ b k
    rw [← sum_mulR]
    refine sum_congr fun i hi => ?_
    have e := pwQ_add b i (k - i)
    rw [show i + (k - i) = k by omega] at e
    rw [pow_wt b f j i, e]
    grind
theorem pwQ_mul {a b : Rat} (e : a * b = 1) : ∀ j, pwQ a j * pwQ b j = 1
  | 0 => by show (1 : Rat) * 1 = 1; decide +kernel
  | j + 1 => by
    show pwQ a j * a * (pwQ b j * b) = 1
    have := pwQ_mul e j
    grind
theorem cmp_sc (a : Rat) (u f : Ser) : cmpS (scS a u) f = scS a (cmpS u f) := by
  funext n
  show sumN (fun j => a * u j * powS f j n) (n + 1) = a * sumN (fun j => u j * powS f j n) (n + 1)
  rw [← sum_mul]
  exact sum_congr fun j _ => by rw [Rat.mul_assoc]
theorem cmp_wt (b : Rat) (u f : Ser) : cmpS u (wtS b f) = wtS b (cmpS u f) := by
  funext n
  show sumN (fun j => u j * powS (wtS b f) j n) (n + 1) = sumN (fun j => u j * powS f j n) (n + 1) * pwQ b n
  rw [← sum_mulR]
  exact sum_congr fun j _ => by rw [pow_wt, Rat.mul_assoc]
theorem wt_sc {a b : Rat} (e : a * b = 1) (u f : Ser) : cmpS (wtS b u) (scS a f) = cmpS u f := by
  funext n
  refine sum_congr fun j _ => ?_
  show u j * pwQ b j * powS (scS a f) j n = u j * powS f j n
  have := pwQ_mul e j
  rw [pow_sc]
  grind
theorem inv_sc {a b : Rat} (e : a * b = 1) {f : Ser} (f0 : f 0 = 0) (f1 : f 1 ≠ 0) : invS (scS a f) = wtS b (invS f) := by
  have a0 : a ≠ 0 := fun z => by rw [z, Rat.zero_mul] at e; exact absurd e (by decide)
  refine (invS_uni (show scS a f 0 = 0 by show a * f 0 = 0; rw [f0, Rat.mul_zero]) (rat_ne a0 f1) (show invS f 0 * pwQ b 0 = 0 from Rat.zero_mul _) ?_).symm
  rw [wt_sc e, inv_x f0 f1]
/-! ### sizes -/
theorem Gm.inv {D m n : Nat} {h : Ser} (g : Gm D m h n) (h1 : h 1 = 1) (n9 : n ≤ 9) : Gm D (m + 60) (invS h) n := by
  have h1' : h 1 ≠ 0 := by rw [h1]; decide
  refine ⟨rfl, fun k => ?_⟩
  induction k using Nat.strongRecOn with
  | ind k ih =>
    intro hk
    have a := congrFun (inv_x g.z h1') (k + 1)
    have e : cmpS (invS h) h (k + 1) = sumN (fun j => invS h j * powS h j (k + 1)) (k + 1) + invS h (k + 1) * powS h (k + 1) (k + 1) := rfl
    rw [e, pow_d1 g.z h1, Rat.mul_one, sum_first, show invS h 0 = 0 from rfl, Rat.zero_mul, Rat.zero_add] at a
    match k, hk, ih with
    | 0, _, _ =>
      have e1 : invS h (0 + 1) = 1 := by
        have : sumN (fun i => invS h (i + 1) * powS h (i + 1) (0 + 1)) 0 = 0 := rfl
        rw [this, Rat.zero_add] at a
        exact a
      rw [e1]
      exact Dq.one (show 1 < 2 ^ 1 by decide)
    | k + 1, hk, ih =>
      have e1 : invS h (k + 1 + 1) = -sumN (fun i => invS h (i + 1) * powS h (i + 1) (k + 1 + 1)) (k + 1) := by
        rw [show xS (k + 1 + 1) = 0 from if_neg (by omega)] at a
        grind
      rw [e1]
      refine (dq_sum (L := D ^ (k + 1)) (B := (m + 60) * (k + 1) - 14) (c := 4) _ (fun i hi => ?_) (by omega)).neg.mono (by rw [Nat.add_mul]; omega)
      have p := ih i (by omega) (by omega)
      have q := g.pow (by omega) i (k + 1 - i) (by omega)
      rw [show i + 1 + (k + 1 - i) = k + 1 + 1 by omega] at q
      have r := p.mul q
      rw [← Nat.pow_add, show i + (k + 1 - i) = k + 1 by omega] at r
      refine r.mono ?_
      have e2 : (m + 60) * i + (m + 60) * (k + 1 - i) = (m + 60) * (k + 1) := by rw [← Nat.mul_add, show i + (k + 1 - i) = k + 1 by omega]
      have e3 : (m + 60) * (k + 1 - i) = m * (k + 1 - i) + 60 * (k + 1 - i) := Nat.add_mul _ _ _
      omega
/-- a lead and its inverse -/
structure LdQ (a b : Rat) : Prop where
  e : a * b = 1
  a : Dq 6 4 a
  b : Dq 2 3 b
theorem pw_dq {L B : Nat} {a : Rat} (h : Dq L B a) : ∀ j, Dq (L ^ j) (B * j + 1) (pwQ a j)
  | 0 => Dq.one (show 1 < 2 ^ 1 by decide)
  | j + 1 => ((pw_dq h j).mul h).mono (by rw [Nat.mul_succ]; omega)
theorem Gm.wt {D m n : Nat} {f : Ser} {b : Rat} (g : Gm D m f n) (f1 : f 1 = 1) (hb : Dq 2 3 b) : Gm (2 * D) (m + 4) (fun k => f k * pwQ b (k - 1)) n := by
  refine ⟨by show f 0 * _ = 0; rw [g.z, Rat.zero_mul], fun k hk => ?_⟩
  match k, hk with
  | 0, _ =>
    show Dq _ _ (f 1 * pwQ b 0)
    rw [f1, show pwQ b 0 = 1 from rfl, Rat.mul_one]
    exact Dq.one (show 1 < 2 ^ 1 by decide)
  | k + 1, hk =>
    have r := (pw_dq hb (k + 1)).mul (g.g (k + 1) hk)
    rw [← Nat.mul_pow, Rat.mul_comm] at r
    exact r.mono (by rw [Nat.add_mul]; omega)
/-- all powers of a series, up to a place -/
def Gl (L B : Nat) (f : Ser) (n : Nat) : Prop := ∀ j k, 1 ≤ j → k ≤ n → Dq L B (powS f j k)
theorem Gm.gl {D m n : Nat} {f : Ser} (g : Gm D m f n) (d0 : 0 < D) (d : D < 2 ^ 90) (n1 : 1 ≤ n) (n7 : n ≤ 7) : Gl (D ^ (n - 1)) (15 * m + 900) f n := fun j k j1 hk => by
  obtain ⟨j, rfl⟩ : ∃ i, j = i + 1 := ⟨j - 1, by omega⟩
  rcases Nat.lt_or_ge k (j + 1) with e | e
  · rw [powS_low g.z (j + 1) k e]
    exact Dq.zero
  · have a := g.pow (by omega) j (k - (j + 1)) (by omega)
    rw [show j + 1 + (k - (j + 1)) = k by omega] at a
    refine (a.dv (Nat.pow_dvd_pow D (show k - (j + 1) ≤ n - 1 by omega)) (Nat.pow_pos d0) (Dpow d (show n - 1 ≤ n by omega) n1)).mono ?_
    have : m * (k - (j + 1)) ≤ m * 15 := Nat.mul_le_mul_left m (by omega)
    omega
theorem gl_cut {L B n : Nat} {f g : Ser} (h : Gl L B f n) (e : EqTo (n + 1) g f) : Gl L B g n := fun j k j1 hk => by
  rw [e.pow j k (by omega)]
  exact h j k j1 hk
theorem Gl.pow {L B n : Nat} {f : Ser} {qs : List Rat} (h : Gl L B f n) (l : qs.length = n) (e : EqTo (n + 1) (serS qs) f) : PowD L B qs := fun j hj q hq => by
  rw [powL_S] at hq
  obtain ⟨i, hi⟩ := List.getElem?_of_mem hq
  rcases Nat.lt_or_ge i (qs.length + 1) with c | c
  · rw [toL_get c] at hi
    rw [← Option.some.inj hi, e.pow (j + 1) i (by omega)]
    exact h (j + 1) i (by omega) (by omega)
  · rw [List.getElem?_eq_none (by rw [toL_len]; exact c)] at hi
    cases hi
theorem Gl.one {L B n : Nat} {f : Ser} (h : Gl L B f n) {k : Nat} (hk : k ≤ n) : Dq L B (f k) := by
  have := h 1 k (by omega) hk
  rw [powS_one] at this
  exact this
theorem all_ser {L B : Nat} {qs : List Rat} (h : ∀ k, k < qs.length → Dq L B (serS qs (k + 1))) : AllD L B qs := fun q hq => by
  obtain ⟨i, hi⟩ := List.getElem?_of_mem hq
  have c : i < qs.length := by
    rcases Nat.lt_or_ge i qs.length with c | c
    · exact c
    · rw [List.getElem?_eq_none c] at hi; cases hi
  have e := h i c
  rw [serS_at, List.getD_eq_getElem?_getD, hi] at e
  exact e
theorem Gl.all {L B n : Nat} {f : Ser} {qs : List Rat} (h : Gl L B f n) (l : qs.length = n) (e : EqTo (n + 1) (serS qs) f) : AllD L B qs := all_ser fun k hk => by
  rw [e (k + 1) (by omega)]
  exact h.one (by omega)
/-- a scaled one -/
theorem Gl.sc {D m n : Nat} {f : Ser} {a : Rat} (g : Gm D m f n) (d0 : 0 < D) (d : D < 2 ^ 90) (n1 : 1 ≤ n) (n7 : n ≤ 7) (ha : Dq 6 4 a) : Gl (6 ^ n * D ^ (n - 1)) (15 * m + 980) (scS a f) n := fun j k j1 hk => by
  rw [pow_sc]
  rcases Nat.lt_or_ge n j with c | c
  · rw [powS_low g.z j k (by omega), Rat.mul_zero]
    exact Dq.zero
  · have p := (pw_dq ha j).dv (Nat.pow_dvd_pow 6 c) (Nat.pow_pos (by decide)) (show 6 ^ n < 2 ^ 21 from Nat.lt_of_le_of_lt (Nat.pow_le_pow_right (by decide) n7) (by decide))
    exact (p.mul (g.gl d0 d n1 n7 j k j1 hk)).mono (by omega)
theorem Gl.wt {D m n : Nat} {f : Ser} {b : Rat} (g : Gm D m f n) (d0 : 0 < D) (d : D < 2 ^ 90) (n1 : 1 ≤ n) (n7 : n ≤ 7) (hb : Dq 2 3 b) : Gl (2 ^ n * D ^ (n - 1)) (15 * m + 980) (wtS b f) n := fun j k j1 hk => by
  rw [pow_wt, Rat.mul_comm]
  have p := (pw_dq hb k).dv (Nat.pow_dvd_pow 2 hk) (Nat.pow_pos (by decide)) (show 2 ^ n < 2 ^ 8 from Nat.pow_lt_pow_right (by decide) (by omega))
  exact (p.mul (g.gl d0 d n1 n7 j k j1 hk)).mono (by omega)
end Kx
end
section
set_option maxHeartbeats 4000000
namespace Kx
open PySem PySem.Spec PyProof.Rows L2 RZ
section
variable {X : Cx} {CX : CXT} {k : Nat} {f : Addr} {sp : Sp} {E : XK} {x : Str} {e : Expr} {es : List Expr} {t : TA} {p pos : Pos}
end
theorem gm_T {E m N : Nat} {J : Ser} (g : Gm E m J N) : Gm E m (serS (toT N J)) (toT N J).length := by
  rw [toT_len]
  exact ⟨rfl, fun k hk => by rw [serS_toT g.z (k + 1) (by omega)]; exact g.g k hk⟩
theorem cmp_one' {p q : Ser} (p0 : p 0 = 0) (p1 : p 1 = 1) (q1 : q 1 = 1) : cmpS p q 1 = 1 := by
  show (0 : Rat) + p 0 * _ + p 1 * powS q 1 1 = 1
  rw [p0, p1, powS_one, q1]
  grind
section
variable {E N : Nat} {J F : Ser}
end
section
variable {P : Program} {w : World} {K : PySem.W.Frag} {mg : Str → Option Value} {base : Heap} {f C S SD CF CO o0 o1 CN : Addr} {cs : Fin 2 → Addr} {fd : FuncData}
end
end Kx
end
section
set_option maxHeartbeats 4000000
namespace Kx
open PySem PySem.Spec PyProof.Rows L2 RZ
/-! ### half of a step behind itself -/
theorem xl0 {f : Ser} (f0 : f 0 = 0) : cmpS xS f = f := by
  funext n
  rcases Nat.eq_zero_or_pos n with c | c
  · rw [c, cmpS_zero, f0]
    rfl
  · exact cmpS_xl f n c
theorem it_com2 {f g : Ser} (f0 : f 0 = 0) (g0 : g 0 = 0) (c : cmpS f g = cmpS g f) : ∀ n, cmpS f (itS g n) = cmpS (itS g n) f
  | 0 => by
    show cmpS f xS = cmpS xS f
    rw [cmpS_xr, xl0 f0]
  | n + 1 => by
    show cmpS f (cmpS (itS g n) g) = cmpS (cmpS (itS g n) g) f
    rw [← cmpS_assoc (it_00 n) g0, it_com2 f0 g0 c n, cmpS_assoc f0 g0, c, ← cmpS_assoc g0 f0]
def hfq : Rat := mkRat 1 2
theorem hfq_two : hfq + hfq = 1 := by decide +kernel
def hfS (g : Ser) : Ser := fun i => pwF g hfq i i
section
variable {g : Ser} (g0 : g 0 = 0) (g1 : g 1 = 1)
include g0 g1
theorem hf_to (N : Nat) : EqTo (N + 1) (pwF g hfq N) (hfS g) := fun i hi => sum_tail (by omega) fun k hk => by rw [df_low g0 g1 k i hk, Rat.mul_zero]
theorem hf_one : hfS g 1 = 1 := pw_01 g0 g1 hfq (Nat.le_refl 1)
theorem hf_sq : cmpS (hfS g) (hfS g) = g := by
  funext i
  have e := hf_to g0 g1 (i + 1)
  have e1 : cmpS xS g = g := xl0 g0
  rw [← EqTo.cmp e e i (by omega), pw_cmp g0 g1 (by omega) hfq hfq i (by omega), hfq_two, show (1 : Rat) = ((1 : Nat) : Rat) from rfl, pw_nat g0 g1 (by omega) 1 i (by omega)]
  show cmpS xS g i = g i
  rw [e1]
theorem hf_com {f : Ser} (f0 : f 0 = 0) (c : cmpS f g = cmpS g f) : cmpS f (hfS g) = cmpS (hfS g) f := by
  funext i
  have e := hf_to g0 g1 (i + 1)
  rw [← EqTo.cmp (fun _ _ => rfl) e i (by omega), ← EqTo.cmp e (fun _ _ => rfl) i (by omega)]
  exact Pl.eq (p := fun t => cmpS f (pwF g t (i + 1)) i) (q := fun t => cmpS (pwF g t (i + 1)) f i) ((PlS.const f).cmp (pw_pl g (i + 1)) i) ((pw_pl g (i + 1)).cmp (PlS.const f) i) (fun n => by
    show cmpS f (pwF g ((n : Nat) : Rat) (i + 1)) i = cmpS (pwF g ((n : Nat) : Rat) (i + 1)) f i
    have en := pw_nat g0 g1 (show 1 ≤ i + 1 by omega) n
    rw [EqTo.cmp (fun _ _ => rfl) en i (by omega), EqTo.cmp en (fun _ _ => rfl) i (by omega), it_com2 f0 g0 c]) hfq
end
theorem hf_00 (g : Ser) : hfS g 0 = 0 := rfl
theorem df_cg {f g : Ser} {n : Nat} (e : EqTo n f g) : ∀ k, EqTo n (dfK f k) (dfK g k)
  | 0 => fun _ _ => rfl
  | k + 1 => fun i hi => by
    show cmpS (dfK f k) f i - dfK f k i = cmpS (dfK g k) g i - dfK g k i
    rw [EqTo.cmp (df_cg e k) e i hi, df_cg e k i hi]
theorem pwF_cg {f g : Ser} {n : Nat} (e : EqTo n f g) (t : Rat) (N : Nat) : EqTo n (pwF f t N) (pwF g t N) := fun i hi => sum_congr fun k _ => by rw [df_cg e k i hi]
theorem pwL_half {f : Ser} {N : Nat} (f0 : f 0 = 0) (f1 : f 1 = 1) : pwL (toT N f) hfq = toT N (hfS f) := by
  unfold pwL
  rw [toT_len]
  exact toT_eq ((pwF_cg (serS_toT f0) hfq N).trans (hf_to f0 f1 N))
/-! ### a flip parted -/
theorem cmp_at1 {p q : Ser} (p0 : p 0 = 0) : cmpS p q 1 = p 1 * q 1 := by
  show (0 : Rat) + p 0 * powS q 0 1 + p 1 * powS q 1 1 = _
  rw [powS_one, p0]
  grind
def flU (f : Ser) : Ser := hfS (cmpS f f)
def flP (f : Ser) : Ser := cmpS f (invS (flU f))
section
variable {f : Ser} (f0 : f 0 = 0) (f1 : f 1 = -1)
include f0 f1
theorem ff_0 : cmpS f f 0 = 0 := by rw [cmpS_zero, f0]
theorem ff_1 : cmpS f f 1 = 1 := by
  rw [cmp_at1 f0, f1]
  decide +kernel
theorem fl_1 : flU f 1 = 1 := hf_one (ff_0 f0 f1) (ff_1 f0 f1)
theorem fl_n : flU f 1 ≠ 0 := by
  rw [fl_1 f0 f1]
  decide
theorem fl_com : cmpS f (flU f) = cmpS (flU f) f := hf_com (ff_0 f0 f1) (ff_1 f0 f1) f0 (cmpS_assoc f0 f0).symm
theorem fl_sq : cmpS (flU f) (flU f) = cmpS f f := hf_sq (ff_0 f0 f1) (ff_1 f0 f1)
theorem fl_su : cmpS (flP f) (flU f) = f := led_back (hf_00 _) (fl_n f0 f1) f
theorem fl_p0 : flP f 0 = 0 := by
  show cmpS f _ 0 = 0
  rw [cmpS_zero, f0]
theorem fl_us : cmpS (flU f) (flP f) = f := by
  show cmpS (flU f) (cmpS f (invS (flU f))) = f
  rw [← cmpS_assoc f0 rfl, ← fl_com f0 f1, cmpS_assoc (show flU f 0 = 0 from rfl) rfl, x_inv (show flU f 0 = 0 from rfl) (fl_n f0 f1), cmpS_xr]
theorem fl_p1 : flP f 1 = -1 := by
  have e := inv_one (h := flU f) (hf_00 _) (fl_n f0 f1)
  rw [fl_1 f0 f1, Rat.mul_one] at e
  show cmpS f (invS (flU f)) 1 = -1
  rw [cmp_at1 f0, e, f1]
  decide +kernel
theorem fl_pp : cmpS (flP f) (flP f) = xS := by
  have p0 := fl_p0 f0 f1
  have u0 : flU f 0 = 0 := hf_00 _
  have w0 : cmpS (flU f) (flU f) 0 = 0 := by rw [cmpS_zero, u0]
  have w1 : cmpS (flU f) (flU f) 1 ≠ 0 := by
    rw [fl_sq f0 f1, ff_1 f0 f1]
    decide
  have e : cmpS (cmpS (flP f) (flP f)) (cmpS (flU f) (flU f)) = cmpS (flU f) (flU f) := by
    rw [cmpS_assoc p0 w0, ← cmpS_assoc (u := flP f) u0 u0, fl_su f0 f1, fl_com f0 f1, ← cmpS_assoc u0 f0, fl_su f0 f1, fl_sq f0 f1]
  rw [led_uni w0 w1 e, x_inv w0 w1]
end
theorem cmpS_subR (u w f : Ser) : cmpS (fun i => (u i - w i) * hfq) f = fun k => (cmpS u f k - cmpS w f k) * hfq := by
  funext k
  show sumN (fun j => (u j - w j) * hfq * powS f j k) (k + 1) = (sumN (fun j => u j * powS f j k) (k + 1) - sumN (fun j => w j * powS f j k) (k + 1)) * hfq
  generalize k + 1 = m
  induction m with
  | zero => show (0 : Rat) = (0 - 0) * hfq; grind
  | succ m ih =>
    show sumN _ m + _ = (sumN _ m + _ - (sumN _ m + _)) * hfq
    rw [ih]
    grind
def flH (s : Ser) : Ser := fun k => (xS k - s k) * hfq
theorem flH_cmp {s : Ser} (s0 : s 0 = 0) (e : cmpS s s = xS) : cmpS (flH s) s = scS (-1) (flH s) := by
  show cmpS (fun i => (xS i - s i) * hfq) s = _
  rw [cmpS_subR, xl0 s0, e]
  funext k
  show (s k - xS k) * hfq = -1 * ((xS k - s k) * hfq)
  grind
/-! ### a stretch made straight -/
def gLs (f : Ser) : Nat → List Rat
  | 0 => []
  | k + 1 => gLs f k ++ [if k = 0 then 1 else sumN (fun i => ser (gLs f k) i * powS f (i + 1) (k + 1)) k / (f 1 - powS f (k + 1) (k + 1))]
theorem gLs_len (f : Ser) : ∀ k, (gLs f k).length = k
  | 0 => rfl
  | k + 1 => by
    show (gLs f k ++ [_]).length = _
    rw [List.length_append, gLs_len f k]
    rfl
def stS (f : Ser) : Ser
  | 0 => 0
  | k + 1 => ser (gLs f (k + 1)) k
theorem gLs_pre (f : Ser) (k : Nat) : ∀ n, k ≤ n → ∀ i, i < k → ser (gLs f n) i = ser (gLs f k) i := by
  intro n h
  induction h with
  | refl => exact fun _ _ => rfl
  | step h ih =>
    rename_i m
    intro i hi
    rw [← ih i hi]
    have l := gLs_len f m
    have h' : k ≤ m := h
    show List.getD (gLs f m ++ [_]) i 0 = List.getD (gLs f m) i 0
    rw [List.getD_eq_getElem?_getD, List.getElem?_append_left (by omega), ← List.getD_eq_getElem?_getD]
theorem gLs_at (f : Ser) {k i : Nat} (h : i < k) : ser (gLs f k) i = stS f (i + 1) := gLs_pre f (i + 1) k (by omega) i (by omega)
theorem gLs_T (f : Ser) (k : Nat) : gLs f k = toT k (stS f) := by
  apply List.ext_getElem?
  intro i
  rcases Nat.lt_or_ge i k with c | c
  · rw [toT_get c, ← gLs_at f c]
    show _ = some (List.getD _ _ _)
    rw [List.getD_eq_getElem?_getD, List.getElem?_eq_getElem (by rw [gLs_len]; exact c)]
    rfl
  · rw [List.getElem?_eq_none (by rw [gLs_len]; exact c), List.getElem?_eq_none (by rw [toT_len]; exact c)]
theorem stS_last (f : Ser) (k : Nat) : stS f (k + 1) = if k = 0 then 1 else sumN (fun i => stS f (i + 1) * powS f (i + 1) (k + 1)) k / (f 1 - powS f (k + 1) (k + 1)) := by
  show List.getD (gLs f k ++ [_]) k 0 = _
  have l := gLs_len f k
  rw [List.getD_eq_getElem?_getD, List.getElem?_append_right (by omega), l, Nat.sub_self]
  show (if k = 0 then (1 : Rat) else _) = _
  by_cases c : k = 0
  · rw [if_pos c, if_pos c]
  · rw [if_neg c, if_neg c, sum_congr fun i hi => by rw [gLs_at f hi]]
theorem stS_1 (f : Ser) : stS f 1 = 1 := by rw [stS_last, if_pos rfl]
theorem stS_cmp {f : Ser} (f0 : f 0 = 0) {N : Nat} (ne : ∀ n, 2 ≤ n → n ≤ N → f 1 - powS f n n ≠ 0) : EqTo (N + 1) (cmpS (stS f) f) (scS (f 1) (stS f)) := fun n hn => by
  match n, hn with
  | 0, _ =>
    rw [cmpS_zero]
    show (0 : Rat) = f 1 * 0
    rw [Rat.mul_zero]
  | 1, _ =>
    rw [cmp_at1 (show stS f 0 = 0 from rfl), stS_1]
    show 1 * f 1 = f 1 * stS f 1
    rw [stS_1]
    grind
  | k + 2, hk =>
    have e : cmpS (stS f) f (k + 2) = sumN (fun j => stS f j * powS f j (k + 2)) (k + 2) + stS f (k + 2) * powS f (k + 2) (k + 2) := rfl
    rw [e, sum_first, show stS f 0 = 0 from rfl, Rat.zero_mul, Rat.zero_add]
    have d := stS_last f (k + 1)
    rw [if_neg (by omega)] at d
    have n0 := ne (k + 2) (by omega) (by omega)
    have d2 : stS f (k + 2) * (f 1 - powS f (k + 2) (k + 2)) = sumN (fun i => stS f (i + 1) * powS f (i + 1) (k + 2)) (k + 1) := by
      show stS f (k + 1 + 1) * _ = _
      rw [d]
      exact Rat.div_mul_cancel n0
    rw [← d2]
    show _ = f 1 * stS f (k + 2)
    grind
end Kx
end
section
set_option maxHeartbeats 4000000
namespace Kx
open PySem PySem.Spec PyProof.Rows L2 RZ
def spEqF (K : PySem.W.Frag) (S : Addr) : Sp := fun vs H Q _ => ∃ (x y : V) (qs rs : List Rat), vs = [x, y] ∧ StAt K S H x qs ∧ StAt K S H y rs ∧ Q (.bl (decide (qs = rs))) H
section
variable {P : Program} {w : World} {K : PySem.W.Frag} {mg : Str → Option Value} {base : Heap} {f C S CF CO : Addr} {fd : FuncData} {H : Hp}
theorem scSE : FnScope ["self", "other"] ["self", "other"] (defScope C_Step_eq) := ⟨rfl, rfl, rfl, by decide +kernel, rfl, by decide +kernel, by decide +kernel⟩
theorem ok_seqF (G : Fun K "__eq__" "Step.__eq__" C_Step_eq f fd) (k : StepK P w K mg base C S CF CO) (ks : IsS K S) (mI : mg "isinstance" = none) : FnOk P w K mg base CX0 1 f fd ["self", "other"] (spEqF K S) := by
  refine G.ok scSE (fun vs H Q E h => ?_) (fun cdv A outer s H vs Q E hr h => ?_)
  · obtain ⟨x, y, qs, rs, rfl, _⟩ := h
    rfl
  obtain ⟨v, u, qs, rs, rfl, hS, hT, q⟩ := h
  obtain ⟨x, dx, b, xs, fs, rfl, hx, hb, nx, f1, _⟩ := hS.num
  obtain ⟨y, dy, c, ys, gs, rfl, hy, hc, ny, g1, _⟩ := hT.num
  refine ⟨_, pss_one (ps_ret (pe_and (pe_callB call_isi rfl mI (by decide +kernel) (pa_cons (pv 1) (pa_cons (C8.pe_gc (v := .ref S) rfl ⟨_, k.m, rfl⟩) pa_nil))) (pe_one (pe_cmpR (op_eqD hr.units) (pe_fld (pv 0) rfl) (pe_fld (pv 1) rfl) (nomark _))))), ?_⟩
  refine ⟨_, rfl, .ref y, .ref S, .ref S, .ref S, true, rfl, .own S, ks.ty _ _ _ _ hy, ks.kit, _, rfl, iteT ?_⟩
  refine ⟨_, rfl, x, S, dx, _, _, rfl, hx, k.c, k.nA _ (by simp [stN]), f1, _, rfl, y, S, dy, _, _, rfl, hy, k.c, k.nA _ (by simp [stN]), g1, datL qs, datL rs, nx.dp hb, ny.dp hc, shaped_list _, shaped_list _, ?_⟩
  rw [eqv_list]
  exact q
/-- two steps compared -/
theorem rd_eqS {vx vy : V} {qs rs : List Rat} {E : XK} {R : VK} (ks : IsS K S) (hX : StAt K S H vx qs) (hY : StAt K S H vy rs) (q : R (.bl (decide (qs = rs))) H) : rEqO K S (spEqF K S) E vx vy H R := by
  have nf : PySem.W.notFirst K S (.ref S) = true := by
    unfold PySem.W.notFirst
    rw [beq_self_eq_true]
    rfl
  obtain ⟨x, dx, b, xs, x0, fv, sv, e, hx, _⟩ := id hX
  obtain ⟨y, dy, d, ys, y0, fw, sw, rfl, hy, _⟩ := id hY
  exact ⟨x, dx, _, .ref S, e, hx, ks.ty _ _ _ _ hy, nf, vx, _, qs, rs, rfl, hX, hY, q⟩
end
/-! ### != of two own objects whose class has == alone -/
section
variable {M : Model} {A : Around} {E : Value → Shared → Prop} {s : Shared} {K : PySem.W.Frag} {x C : Addr} {ox : Obj} {od : Option Obj}
open PySem.W in
theorem ifBound_B {name : Str} {id : String} {args : List Value} {Q : Option Value → Shared → Prop} (X : K.In s.heap) (I : InstAt s.heap x ox C od) (hs : findIn K (.ref C) name = some (some (.builtin id)))
    (hb : ∀ self, bindSpecial (.builtin id) self = pure (.builtin id, [self])) (h : wpAny M A (call (.builtin id) (.ref x :: args)) (fun v => Q (some v)) E s) : wpAny M A (callSpecialIfBound? (.ref x) name args) Q E s := by
  simp only [callSpecialIfBound?, bindSpecialIfBound?]
  refine wpAny_holding (wpAny_bind (wpAny_bind (wpAny_bind (I.type.here ((looks_findIn X hs).here ?_)))))
  refine wpAny_bind (wpAny_askSetting (wpAny_ite ?_))
  have fin : wpAny M A (call (.builtin id) ([.ref x] ++ args) >>= fun v => pure (some v)) Q E s := wpAny_bind (wpAny_mono h (fun v s' h' => wpAny_pure h') fun _ _ h' => h')
  split
  · exact wpAny_bind ((Looks.of_pure (hb _)).here (wpAny_pure (by exact fin)))
  · exact wpAny_tryCatch (wpAny_bind ((Looks.of_pure (hb _)).here (wpAny_pure (by exact fin))))
end
section
variable {prog : Program} {w : World} {A : Around} {E : Value → Shared → Prop} {s : Shared} {K : PySem.W.Frag} {x C f : Addr} {ox : Obj} {od : Option Obj} {b tb : Value}
open PySem.W in
theorem objNe_K {Q : Value → Shared → Prop} (hu : A.in1.units < cLine) (X : K.In s.heap) (I : InstAt s.heap x ox C od) (hm : mroIn K C (.type "object") = some true) (he : findIn K (.ref C) "__eq__" = some (some (.ref f))) (hf : isFn K (.ref f) = true)
    (h : wpAny (model prog w) A.in1 (call (.ref f) [.ref x, b]) (fun v s' => ∃ r, v = .bool r ∧ Q (.bool (!r)) s') E s) : wpAny (model prog w) A (call (.builtin "object.__ne__") [.ref x, b]) Q E s := by
  have FB := PySem.F.cmp_object
  refine wpAny_call (codeAny_call_builtin FB.ne.plain PySem.F.cmpEntry_ne (check_slot (i := "object.__ne__") (owner := "object") (n := "__ne__") PySem.F.cmpKind_ne PySem.F.cmpSplit_ne (I.type.andThen (looks_mroIn X hm)) (PySem.F.cmpArgs_ne _ _) ?_))
  unfold Builtin.«object.__ne__»
  repeat (first
    | with_reducible refine wpAny_cRoomFor hu ?_
    | (refine wpAny_bind (m := callSpecialIfBound? (.ref x) (Str.ofString "__eq__") [b])
        (ifBound_K X I he hf (wpAny_mono h (fun r s' hr => by
          obtain ⟨c, rfl, hq⟩ := hr
          repeat (first | exact hq | exact wpAny_pure hq | exact wpAny_truthy_bool hq | (refine wpAny_bind (m := truthy (.bool _)) (wpAny_truthy_bool ?_)) | wp_step)) fun _ _ e => e)))
    | wp_step)
open PySem.W in
theorem ne_own {L : Addr} {h₀ : Heap} {m : Str → Option Value} {Q : Value → Shared → Prop} (hu : A.units < cLine) (hu1 : A.in1.units < cLine) (F : Fr h₀ L s.heap m) (X₀ : K.In h₀) (I : InstAt s.heap x ox C od) (hb : Looks (model prog w) s.heap (typeOf b) tb) (hn : notFirst K C tb = true)
    (hs : findIn K (.ref C) "__ne__" = some (some (.builtin "object.__ne__"))) (hm : mroIn K C (.type "object") = some true) (he : findIn K (.ref C) "__eq__" = some (some (.ref f))) (hf : isFn K (.ref f) = true)
    (h : wpAny (model prog w) A.in1 (call (.ref f) [.ref x, b]) (fun v s' => ∃ r, v = .bool r ∧ Q (.bool (!r)) s') E s) : wpAny (model prog w) A (compareOp .NotEq (.ref x) b) Q E s := by
  have X := X₀.keeps F.keep
  have one : wpAny (model prog w) A (tryCompare (.ref x) "__ne__" b) (fun r s' => ∃ v, r = some v ∧ Q v s') E s := by
    unfold tryCompare
    refine wpAny_bind (ifBound_B X I hs PySem.F.cmp_object.ne.bind (objNe_K hu1 X I hm he hf (wpAny_mono h (fun v s' hv => ?_) fun _ _ e => e)))
    obtain ⟨r, rfl, hq⟩ := hv
    exact ⟨r, rfl, wpAny_pure ⟨_, rfl, hq⟩⟩
  show wpAny _ _ (richCompare .NotEq (.ref x) b) Q E s
  unfold richCompare
  simp only [oneThing_ref]
  refine wpAny_holding (wpAny_bind (wpAny_cRoomFor hu ?_))
  refine wpAny_bind (I.type.here (wpAny_bind (hb.here ?_)))
  split
  · rename_i q
    have e : subIn K tb (.ref C) = some false := by
      rcases Bool.or_eq_true_iff.mp hn with e | e
      · rw [beq_iff_eq.mp e] at q; simp at q
      · exact beq_iff_eq.mp e
    refine wpAny_bind ((looks_subIn X e).here ?_)
    simp only [Bool.false_eq_true, if_false]
    refine wpAny_bind (wpAny_mono one (fun r s' z => ?_) fun _ _ e => e)
    obtain ⟨v, rfl, hq⟩ := z
    exact wpAny_pure hq
  · refine wpAny_bind (wpAny_pure ?_)
    simp only [Bool.false_eq_true, if_false]
    refine wpAny_bind (wpAny_mono one (fun r s' z => ?_) fun _ _ e => e)
    obtain ⟨v, rfl, hq⟩ := z
    exact wpAny_pure hq
end
/-- !=, the left one of the class -/
def rNeO (K : PySem.W.Frag) (C : Addr) (sp : Sp) (E : XK) : R2 := fun x y H Q => ∃ (a dx : Addr) (fs : List (Str × V)) (t : Value), x = .ref a ∧ H a = some (.ins C dx fs) ∧ TyX K H y t ∧ PySem.W.notFirst K C t = true ∧ sp [x, y] H (fun v H' => ∃ r : Bool, v = .bl r ∧ Q (.bl (!r)) H') E
/-- the class has == alone -/
structure NeS (K : PySem.W.Frag) (C : Addr) : Prop where
  ne : PySem.W.findIn K (.ref C) "__ne__" = some (some (.builtin "object.__ne__"))
  mro : PySem.W.mroIn K C (.type "object") = some true
section
variable {X : Cx} {CX : CXT} {k : Nat} {C : Addr} {sp : Sp} {E : XK}
theorem op_neO (O : OpM X.prog X.w X.K X.mg X.base CX k C "__eq__" sp) (N : NeS X.K C) (hr : Room (k + 1) X.A) (hx : Passes CX X E) : OpR X (compareOp .NotEq) (rNeO X.K C sp E) := by
  intro pins s σ H x y v u Q I rx ry h
  obtain ⟨a, dx, fs, t, rfl, ha, ty, nf, hsp⟩ := h
  obtain ⟨g, fd, ps, h1, h2, F, hb⟩ := O.ex
  cases rx
  obtain ⟨mA, J, _⟩ := ins_get I.hok ha
  obtain ⟨od, J, _⟩ := J.look
  obtain ⟨m, hF⟩ := I.fr
  obtain ⟨Pp, Z, pp, _⟩ := kit_of I ry ty
  refine ne_own (tb := t) hr.units0 hr.in1.units0 hF I.ok.mod.kin J (Z.ty _ _ I.kIn pp) nf N.ne N.mro h1 h2 ?_
  have hl := F.len _ _ _ _ hsp
  refine wpAny_call (codeAny_mono (F.run X.A.in1 X.stack s H ⟨[.ref a, u], []⟩ [.ref a, u] [.ref a, y] _ E hr.in1 I.env0.in1 (by
    have := hb s [.ref a, u] I.kIn (by simpa using hl)
    simpa using this) (.cons rfl (.cons ry .nil)) hsp) fun r s' hq => ?_)
  cases r with
  | error e => exact hx pins σ H s e s' I hq
  | ok fl =>
    cases fl with
    | ret w =>
      obtain ⟨z, H', I', rz, r, ez, q⟩ := I.after hq
      subst ez
      obtain rfl : w = .bool r := rz
      exact ⟨r, rfl, .bl (!r), H', I', rfl, q⟩
    | next => exact False.elim hq
    | brk => exact False.elim hq
    | cont => exact False.elim hq
end
section
variable {K : PySem.W.Frag} {S : Addr} {H : Hp}
/-- two steps told apart -/
theorem rd_neS {vx vy : V} {qs rs : List Rat} {E : XK} {R : VK} (ks : IsS K S) (hX : StAt K S H vx qs) (hY : StAt K S H vy rs) (q : R (.bl (!decide (qs = rs))) H) : rNeO K S (spEqF K S) E vx vy H R := by
  have nf : PySem.W.notFirst K S (.ref S) = true := by
    unfold PySem.W.notFirst
    rw [beq_self_eq_true]
    rfl
  obtain ⟨x, dx, b, xs, x0, fv, sv, e, hx, _⟩ := id hX
  obtain ⟨y, dy, d, ys, y0, fw, sw, rfl, hy, _⟩ := id hY
  exact ⟨x, dx, _, .ref S, e, hx, ks.ty _ _ _ _ hy, nf, vx, _, qs, rs, rfl, hX, hY, _, rfl, q⟩
end
end Kx
end
section
set_option maxHeartbeats 4000000
namespace Kx
open PySem PySem.Spec PyProof.Rows L2 RZ
/-! ### a op b op c op d, as a test -/
def tChain3 (r r' r'' : R2) (ta tb tc td : TE) : TE := fun σ H Q => ta σ H fun x H1 => tb σ H1 fun y H2 => r x y H2 fun z H3 => ∃ k, z = .bl k ∧
  (if k = true then tc σ H3 fun w' H4 => r' y w' H4 fun z2 H5 => ∃ k2, z2 = .bl k2 ∧ (if k2 = true then td σ H5 fun w2 H6 => r'' w' w2 H6 Q else Q (.bl false) H5) else Q (.bl false) H3)
section
variable {X : Cx} {a b c d : Expr} {ta tb tc td : TE} {pos : Pos}
theorem pt_chain3 {op op' op'' : CmpOp} {r r' r'' : R2} (ho : OpR X (compareOp op) r) (ho' : OpR X (compareOp op') r') (ho'' : OpR X (compareOp op'') r'') (ha : PE X a ta) (hb : PE X b tb) (hc : PE X c tc) (hd : PE X d td)
    (hm : lastMarks [op, op', op''] [b, c, d] = false := by with_unfolding_all rfl) : PT X (.Compare a [op, op', op''] [b, c, d] pos) (tTest (tChain3 r r' r'' ta tb tc td)) := by
  refine ⟨fun pins s σ H Q I h => ?_⟩
  refine isTrue_chain (thn (ha.run pins s σ H _ I h) fun v s1 ⟨x, H1, I1, r1, q1⟩ => test_link (thn (hb.run pins s1 σ H1 _ I1 q1) fun u s2 ⟨y, H2, I2, r2, q2⟩ =>
    thn (ho pins s2 σ H2 x y v u _ I2 r1 r2 q2) fun d s3 ⟨z, H3, I3, r3, k, e, q3⟩ => ?_)) hm
  subst e
  cases r3
  refine wpAny_truthy_bool ?_
  cases k with
  | false =>
    obtain ⟨k', e', q'⟩ := q3
    cases e'
    exact ite_ff ⟨H3, I3, q'⟩
  | true =>
    refine ite_tt (test_link (thn (hc.run pins s3 σ H3 _ I3 q3) fun w' s4 ⟨z', H4, I4, r4, q4⟩ => thn (ho' pins s4 σ H4 y z' u w' _ I4 r2 r4 q4) fun d' s5 ⟨z2, H5, I5, r5, k2, e2, q5⟩ => ?_))
    subst e2
    cases r5
    refine wpAny_truthy_bool ?_
    cases k2 with
    | false =>
      obtain ⟨k', e', q'⟩ := q5
      cases e'
      exact ite_ff ⟨H5, I5, q'⟩
    | true =>
      refine ite_tt (test_last (thn (hd.run pins s5 σ H5 _ I5 q5) fun w2 s6 ⟨z3, H6, I6, r6, q6⟩ => thn (ho'' pins s6 σ H6 z' z3 w' w2 _ I6 r4 r6 q6) fun d3 s7 ⟨z4, H7, I7, r7, k3, e3, q7⟩ => ?_))
      subst e3
      cases r7
      exact wpAny_truthy_bool ⟨H7, I7, q7⟩
end
/-! ### C.m(..) where m is a plain function of the class -/
structure CFn (K : PySem.W.Frag) (C : Addr) (mc : Value) (m : Str) (g : Addr) : Prop where
  at_ : PySem.W.findCls K (.ref C) mc m = some (.val (.ref g))
  kp : PySem.W.keepIn K (.ref g) = true
section
variable {X : Cx} {CX : CXT} {k : Nat} {C g : Addr} {mc : Value} {fd : FuncData} {ps : List Str} {sp : Sp} {E : XK} {o e : Expr} {es : List Expr} {m : Str} {pos apos : Pos} {ta : TE} {t : TA} {pl : Sem Bool}
theorem pe_clsfn (he : PE X o ta) (r : ClX.CRead X.K C mc) (c : CFn X.K C mc m g) (F : FnOk X.prog X.w X.K X.mg X.base CX k g fd ps sp) (hr : Room k X.A) (hb : Binds X.K fd ps []) (hx : Passes CX X E) (ha : PA X (e :: es) t)
    (hst : starEach (e :: es) X.env = (false, eval e X.env) :: starEach es X.env := by rfl) (hpl : (backTo pos (starEach es X.env)).any (·.1) = false := by rfl)
    (ht : eval (.Call (.Attribute o m apos) (e :: es) [] pos) X.env = (do
      let ov ← eval o X.env
      standAt apos.atName
      let (f, first) ← holding [ov] (getMethod ov m pl)
      callWith pos f first (backTo pos (starEach (e :: es) X.env)) (backToKw pos (keywordEach [] X.env))) := by rfl) :
    PE X (.Call (.Attribute o m apos) (e :: es) [] pos) (tStat C sp E ta t) := by
  refine ⟨fun pins s σ H Q I h => ?_⟩
  refine PySem.W.methodCall_KW (pl := pl) (thn (he.run pins s σ H _ I h) fun u s1 ⟨x, H1, I1, rx, ex, q⟩ => ?_) ht
  subst ex
  obtain rfl : u = Value.ref C := rx
  refine PySem.W.method_cls I1.kIn r.ga (PySem.W.cls_value I1.kIn r.rd c.at_ rfl ?_)
  have I2 : Inv X pins σ H1 { s1 with toks := s1.toks + 1 } := I1.tok _
  refine PySem.W.callWith_K (h₀ := X.base) I2.ok.mod.kin c.kp (thn (ha.run pos pins _ σ H1 _ I2 q) fun us s3 ⟨vs, H2, I3, rv, q2⟩ => ⟨I3.kIn, ?_⟩) hst hpl
  exact run_fn F hr hb .nil hx I3 rv (by rw [List.append_nil]; exact q2)
end
/-! ### or, the first of them None -/
def tOrN (ta tb : TE) : TE := fun σ H Q => ta σ H fun x H1 => x = .non ∧ tb σ H1 Q
theorem pe_orN {X : Cx} {a b : Expr} {rest : List Expr} {ta tb : TE} {pos : Pos} (ha : PE X a ta) (hb : PE X (.BoolOp .Or (b :: rest) pos) tb) : PE X (.BoolOp .Or (a :: b :: rest) pos) (tOrN ta tb) := by
  refine ⟨fun pins s σ H Q I h => ?_⟩
  refine BoolOp_or (thn (ha.run pins s σ H _ I h) fun v s1 ⟨x, H1, I1, r1, q1⟩ => ?_)
  obtain ⟨rfl, q1⟩ := q1
  cases r1
  exact PyProof.Rows.truthy_none (hb.run pins s1 σ H1 Q I1 q1)
/-! ### a or b, any values -/
def tOrG (K : PySem.W.Frag) (ta tb : TE) : TE := fun σ H Q => ta σ H fun x H1 => ∃ k, TruV K x H1 k ∧ if k = true then Q x H1 else tb σ H1 Q
theorem pe_orG {X : Cx} {a b : Expr} {rest : List Expr} {ta tb : TE} {pos : Pos} (ha : PE X a ta) (hb : PE X (.BoolOp .Or (b :: rest) pos) tb) : PE X (.BoolOp .Or (a :: b :: rest) pos) (tOrG X.K ta tb) := by
  refine ⟨fun pins s σ H Q I h => ?_⟩
  refine BoolOp_or (thn (ha.run pins s σ H _ I h) fun v s1 ⟨x, H1, I1, r1, k, tv, q1⟩ => ?_)
  refine wpAny_mono (tru_ok pins s1 σ H1 x v (fun k' H' => if k' = true then Q x H' else tb σ H' Q) I1 r1 ⟨k, tv, q1⟩) (fun k' s2 z => ?_) fun _ _ z => z
  obtain ⟨H2, I2, q2⟩ := z
  cases k' with
  | true => exact ⟨x, H2, I2, r1, q2⟩
  | false => exact hb.run pins s2 σ H2 Q I2 q2
end Kx
end
section
set_option maxHeartbeats 4000000
namespace Kx
open PySem PySem.Spec PyProof.Rows L2 RZ
/-- what putting one behind another may take -/
def MulOk (qs rs : List Rat) : Prop := ∃ L B M Z : Nat, SmL L ∧ B ≤ 100000 ∧ SmL M ∧ Z ≤ 100000 ∧ AllD L B qs ∧ PowD M Z rs
/-! ### cut, scaling -/
def spCcO : Sp := fun vs H Q _ => ∃ n m : Nat, vs = [.int (n : Nat), .int (m : Nat)] ∧ 2 ≤ m ∧ m ≤ n ∧ n ≤ 24 ∧ Q .non H
def spCutO (K : PySem.W.Frag) (S : Addr) : Sp := fun vs H Q _ => ∃ (x : V) (qs : List Rat) (m : Nat), vs = [x, .int (m : Nat)] ∧ StAt K S H x qs ∧ 2 ≤ m ∧ m ≤ qs.length ∧ GivesF K S H Q (qs.take m)
def spCkN (K : PySem.W.Frag) : Sp := fun vs H Q _ => ∃ (v : V) (q : Rat), vs = [v] ∧ Nq K H v q ∧ Q .non H
def spScl (K : PySem.W.Frag) (S : Addr) : Sp := fun vs H Q _ => ∃ (v : V) (q : Rat) (n : Nat), vs = [v, .int (n : Nat)] ∧ Nq K H v q ∧ 2 ≤ n ∧ n ≤ 24 ∧ GivesF K S H Q (q :: List.replicate (n - 1) 0)
section
variable {P : Program} {w : World} {K : PySem.W.Frag} {mg : Str → Option Value} {base : Heap} {f C S CF CO CU o0 : Addr} {fd : FuncData} {H : Hp}
theorem rd_sm {vx vy : V} {qs rs : List Rat} {E : XK} {R : VK} (hX : StAt K S H vx qs) (hY : StAt K S H vy rs) (le : qs.length = rs.length) (m : MulOk qs rs) (q : GivesF K S H R (cmpL qs rs)) : rBin S (spOpS K S CU) E vx vy H R := by
  obtain ⟨x, dx, _, _, _, _, _, ex, hx, _⟩ := id hX
  obtain ⟨y, dy, _, _, _, _, _, ey, hy, _⟩ := id hY
  obtain ⟨L, B, M, Z, sL, lB, sM, lZ, zq, zr⟩ := m
  exact ⟨x, y, dx, dy, _, _, ex, ey, hx, hy, vx, vy, qs, rs, rfl, hX, hY, fun n => absurd le n, fun _ => ⟨L, B, M, Z, sL, lB, sM, lZ, zq, zr, q⟩⟩
theorem scCkN : FnScope ["value"] ["value"] (defScope F_check_number) := ⟨rfl, rfl, rfl, by decide +kernel, rfl, by decide +kernel, by decide +kernel⟩
theorem ok_cnum (G : Fun K "check_number" "check_number" F_check_number f fd) (UF : Use P w K mg base CX0 2 "is_fraction" ["value"] (spIsG K) []) : FnOk P w K mg base CX0 3 f fd ["value"] (spCkN K) := by
  refine G.ok scCkN (fun vs H Q E h => ?_) (fun cdv A outer s H vs Q E hr h => ?_)
  · obtain ⟨v, q, rfl, _⟩ := h
    rfl
  obtain ⟨v, q, rfl, hv, qq⟩ := h
  refine ⟨_, pss_one (ps_if (pt_not (pt_val (pe_use UF hr rfl pass0 (pa_cons (pv 0) pa_nil)))) (pss_one ps_never) pss_nil), ?_⟩
  exact ⟨_, rfl, v, true, rfl, hv.isG, _, rfl, iteF qq⟩
theorem scScO : FnScope ["lead", "order"] ["lead", "order"] (defScope C_Step_scaling) := ⟨rfl, rfl, rfl, by decide +kernel, rfl, by decide +kernel, by decide +kernel⟩
theorem ok_sclO (G : Fun K "scaling" "Step.scaling" C_Step_scaling f fd) (k : StepK P w K mg base C S CF CO) (k0 : KP K o0 0 1) (mZ : mg "ZERO" = some (.ref o0)) (UK : Use P w K mg base CX0 3 "check_number" ["value"] (spCkN K) []) (UC : Use P w K mg base (L2.CX P w) 3 "check_order" ["order"] (spCo K CO) []) :
    FnOk P w K mg base (L2.CX P w) 8 f fd ["lead", "order"] (spScl K S) := by
  refine G.okX scScO (fun vs H Q E h => ?_) (fun cdv A outer s H vs Q E hr h => ?_)
  · obtain ⟨v, q, n, rfl, _⟩ := h
    rfl
  obtain ⟨v, q, n, rfl, nq, n2, n24, g⟩ := h
  obtain ⟨fI, fdI, M, FI, bI⟩ := k.ini
  have hr3 := hr.mono (show 3 ≤ 7 by decide)
  refine ⟨_, pss_cons (ps_expr (pe_use UK hr3 rfl pass0 (pa_cons (pv 0) pa_nil)))
    (pss_cons (ps_expr (pe_use (E := E) UC hr3 rfl (passes_call (takes_of rfl rfl rfl rfl) (fun _ _ _ _ h => h)) (pa_cons (pv 1) pa_nil)))
    (pss_one (ps_ret (pe_make (E := E) M FI hr rfl k.m bI .nil (passes_call (takes_of rfl rfl rfl rfl) (fun _ _ _ _ h => h)) (pa_cons (pe_op op_cat (pe_lst (pa_cons (pv 0) pa_nil)) (pe_op op_rep (pe_lst (pa_cons (C8.pe_gc (v := .ref o0) rfl ⟨_, mZ, rfl⟩) pa_nil)) (pe_op op_sub (pv 1) pe_int))) pa_nil))))), ?_⟩
  refine ⟨_, rfl, v, q, rfl, nq, ?_⟩
  refine ⟨_, rfl, .int (n : Nat), true, rfl, .yes (by omega) (by omega), fun _ => ?_, fun z => Bool.noConfusion z⟩
  refine ⟨_, rfl, (by show 1 ≤ sizeLine; decide), fun a na => ⟨(by show 1 ≤ sizeLine; decide), fun b nb => ⟨_, rfl, (n : Int), 1, rfl, rfl, b, (n : Int) - 1, [.ref o0], rfl, rfl, upd_same, by omega, by omega, (by show 1 * _ ≤ sizeLine; exact Nat.le_of_lt (small1000 (by omega))), fun c nc => ?_⟩⟩⟩
  have rep : (List.replicate ((n : Int) - 1).toNat [V.ref o0]).flatten = List.replicate (n - 1) (.ref o0) := by
    rw [List.flatten_replicate_singleton]
    congr 1
    omega
  rw [rep]
  refine ⟨a, c, _, _, rfl, rfl, new_same nc _ _ _ (new_same nb _ _ _ upd_same), upd_same, Nat.le_of_lt (small1000 (by rw [List.length_replicate]; show 1 + _ ≤ _; omega)), fun d nd => ?_⟩
  have s4 := ((new_same na (.lst [v])).trans ((new_same nb (.lst [V.ref o0])).trans ((new_same nc (.lst (List.replicate (n - 1) (V.ref o0)))).trans (new_same nd (.lst ([v] ++ List.replicate (n - 1) (V.ref o0)))))))
  exact step_new s4 (.inl upd_same) (Nl.cons (nq.same s4) (zeros ⟨o0, rfl, .inr k0⟩ _)) (by rw [List.length_cons, List.length_replicate]; omega) (by rw [List.length_cons, List.length_replicate]; omega) g
end
end Kx
end
section
set_option maxHeartbeats 4000000
namespace Kx
open PySem PySem.Spec PyProof.Rows L2 RZ
/-! ### papers and partings -/
def ptN : List Str := ["title", "step", "pure", "slow", "straightener"]
def ptF (a b c d : V) : List (Str × V) := [("title", .str "parting"), ("step", a), ("pure", b), ("slow", c), ("straightener", d)]
def PtAt (PT : Addr) (H : Hp) (v a b c d : V) : Prop := ∃ x dx, v = .ref x ∧ H x = some (.ins PT dx (ptF a b c d))
theorem PtAt.same {PT : Addr} {H H' : Hp} {v a b c d : V} (h : PtAt PT H v a b c d) (s : Same H H') : PtAt PT H' v a b c d := by
  obtain ⟨x, dx, e, hx⟩ := h
  exact ⟨x, dx, e, s _ _ hx⟩
def spPaI (PT : Addr) : Sp := fun vs H Q _ => ∃ (x dx : Addr) (t : Str), vs = [.ref x, .str t] ∧ H x = some (.ins PT dx []) ∧ Q .non (upd H x (.ins PT dx [("title", .str t)]))
def spPtI (PT : Addr) : Sp := fun vs H Q _ => ∃ (x dx : Addr) (a b c d : V), vs = [.ref x, a, b, c, d] ∧ H x = some (.ins PT dx []) ∧ ∀ H', But x H H' → H' x = some (.ins PT dx (ptF a b c d)) → Q .non H'
/-- what a check answers: nothing, or a pair -/
def GivesP (H : Hp) (Q : VK) (d : Option (Int × Int)) : Prop := match d with
  | none => ∀ H', Same H H' → Q .non H'
  | some (a, b) => ∀ t H', Same H H' → H' t = some (.tup [.int a, .int b]) → Q (.ref t) H'
theorem GivesP.same {H H' : Hp} {Q : VK} {d : Option (Int × Int)} (g : GivesP H Q d) (s : Same H H') : GivesP H' Q d := by
  match d, g with
  | none, g => exact fun H2 s2 => g H2 (s.trans s2)
  | some (a, b), g => exact fun t H2 s2 => g t H2 (s.trans s2)
def unqD (c : Int) (qs rs : List Rat) : Option (Int × Int) := (difN qs rs 0).map fun k => (c, (k : Int) + 1)
def spUnq (K : PySem.W.Frag) (S : Addr) : Sp := fun vs H Q _ => ∃ (c : Int) (x y : V) (qs rs : List Rat), vs = [.int c, x, y] ∧ StAt K S H x qs ∧ StAt K S H y rs ∧ qs.length = rs.length ∧ GivesP H Q (unqD c qs rs)
/-- the numbers of a scaling -/
def scL (n : Nat) (q : Rat) : List Rat := q :: List.replicate (n - 1) 0
/-- what wrong answers -/
def wrgD (f p s h : List Rat) : Option (Int × Int) :=
  if ¬ (f.length = p.length ∧ p.length = s.length ∧ s.length = h.length) then some (0, 0)
  else if serS s 1 ≠ 1 then some (1, 1)
  else if serS h 1 = 0 then some (2, 1)
  else (unqD 3 (cmpL p s) f).or ((unqD 4 (cmpL s p) f).or (unqD 5 (cmpL h p) (cmpL (scL f.length (serS p 1)) h)))
/-- the sizes that wrong wants -/
structure WrOk (f p s h : List Rat) : Prop where
  m1 : MulOk p s
  m2 : MulOk s p
  m3 : MulOk h p
  m4 : MulOk (scL f.length (serS p 1)) h
def spWrg (K : PySem.W.Frag) (S PT : Addr) : Sp := fun vs H Q _ => ∃ (v a b c d : V) (f p s h : List Rat), vs = [v] ∧ PtAt PT H v a b c d ∧ StAt K S H a f ∧ StAt K S H b p ∧ StAt K S H c s ∧ StAt K S H d h ∧ (f.length = p.length → p.length = s.length → s.length = h.length → serS s 1 = 1 → serS h 1 ≠ 0 → WrOk f p s h) ∧ GivesP H Q (wrgD f p s h)
/-- the class of the partings -/
structure PtK (P : Program) (w : World) (K : PySem.W.Frag) (mg : Str → Option Value) (base : Heap) (PT : Addr) : Prop where
  c : Cls K PT
  nA : ∀ n ∈ ptN, NoAttr K PT n
  m : mg "Parting" = some (.ref PT)
/-- what is called by the class of the steps -/
structure StcK (P : Program) (w : World) (K : PySem.W.Frag) (mg : Str → Option Value) (base : Heap) (S : Addr) : Prop where
  rd : ClX.CRead K S (.type "type")
  still : ∃ p g fd, CSta K S (.type "type") "still" p g ∧ FnOk P w K mg base (L2.CX P w) 8 g fd ["order"] (spStil K S) ∧ Binds K fd ["order"] []
  scal : ∃ p g fd, CSta K S (.type "type") "scaling" p g ∧ FnOk P w K mg base (L2.CX P w) 8 g fd ["lead", "order"] (spScl K S) ∧ Binds K fd ["lead", "order"] []
section
variable {P : Program} {w : World} {K : PySem.W.Frag} {mg : Str → Option Value} {base : Heap} {f C S PT PA CF CO CU o0 o1 : Addr} {fd : FuncData} {H : Hp}
theorem StAt.ord {v : V} {qs : List Rat} (h : StAt K S H v qs) (k : StepK P w K mg base C S CF CO) : At K H v "order" (.int (qs.length : Int)) := by
  obtain ⟨y, dy, _, _, gs, ey, hy, _, _, _, g2⟩ := h.nb
  exact ⟨y, S, dy, gs, ey, hy, k.c, k.nA _ (by simp [stN]), g2⟩
theorem StAt.lead {v : V} {qs : List Rat} (h : StAt K S H v qs) (k : StepK P w K mg base C S CF CO) : ∃ x0, At K H v "lead" x0 ∧ Nq K H x0 (serS qs 1) := by
  obtain ⟨y, dy, fs, x0, ey, hy, fl, nq, _⟩ := h.ld
  exact ⟨x0, ⟨y, S, dy, fs, ey, hy, k.c, k.nA _ (by simp [stN]), fl⟩, nq⟩
theorem scPaI : FnScope ["self", "title"] ["self", "title"] (defScope C_Paper_init) := ⟨rfl, rfl, rfl, by decide +kernel, rfl, by decide +kernel, by decide +kernel⟩
theorem ok_painit (F : Fun K "__init__" "Paper.__init__" C_Paper_init f fd) (k : PtK P w K mg base PT) : FnOk P w K mg base CX0 1 f fd ["self", "title"] (spPaI PT) := by
  refine F.ok scPaI (fun vs H Q E h => ?_) (fun cdv A outer s H vs Q E hr h => ?_)
  · obtain ⟨x, dx, t, rfl, _⟩ := h
    rfl
  obtain ⟨x, dx, t, rfl, hx, q⟩ := h
  refine ⟨_, pss_one (ps_fld (pv 0) (pv 1) rfl), ?_⟩
  exact ⟨_, rfl, _, rfl, x, PT, dx, _, rfl, hx, k.c, k.nA _ (by simp [ptN]), (by show 0 < 1000; decide), q⟩
theorem scPtI : FnScope ["self", "step", "pure", "slow", "straightener"] ["self", "step", "pure", "slow", "straightener"] (defScope C_Parting_init) := ⟨rfl, rfl, rfl, by decide +kernel, rfl, by decide +kernel, by decide +kernel⟩
theorem ok_ptinit {gA : Addr} {fdA : FuncData} (F : Fun K "__init__" "Parting.__init__" C_Parting_init f fd) (k : PtK P w K mg base PT) (mPA : mg "Paper" = some (.ref PA)) (rA : ClX.CRead K PA (.type "type")) (cA : CFn K PA (.type "type") "__init__" gA) (FA : FnOk P w K mg base CX0 1 gA fdA ["self", "title"] (spPaI PT)) (bA : Binds K fdA ["self", "title"] []) :
    FnOk P w K mg base CX0 2 f fd ["self", "step", "pure", "slow", "straightener"] (spPtI PT) := by
  refine F.ok scPtI (fun vs H Q E h => ?_) (fun cdv A outer s H vs Q E hr h => ?_)
  · obtain ⟨x, dx, a, b, c, d, rfl, _⟩ := h
    rfl
  obtain ⟨x, dx, a, b, c, d, rfl, hx, q⟩ := h
  refine ⟨_, pss_cons (ps_expr (pe_clsfn (C8.pe_gc (v := .ref PA) rfl ⟨_, mPA, rfl⟩) rA cA FA hr bA pass0 (pa_cons (pv 0) (pa_cons pe_str pa_nil))))
    (pss_cons (ps_fld (pv 0) (pv 1) rfl) (pss_cons (ps_fld (pv 0) (pv 2) rfl) (pss_cons (ps_fld (pv 0) (pv 3) rfl) (pss_one (ps_fld (pv 0) (pv 4) rfl))))), ?_⟩
  refine ⟨rfl, _, rfl, x, dx, _, rfl, hx, ?_⟩
  refine ⟨_, rfl, _, rfl, x, PT, dx, _, rfl, upd_same, k.c, k.nA _ (by simp [ptN]), (by show 1 < 1000; decide), ?_⟩
  refine ⟨_, rfl, _, rfl, x, PT, dx, _, rfl, upd_same, k.c, k.nA _ (by simp [ptN]), (by show 2 < 1000; decide), ?_⟩
  refine ⟨_, rfl, _, rfl, x, PT, dx, _, rfl, upd_same, k.c, k.nA _ (by simp [ptN]), (by show 3 < 1000; decide), ?_⟩
  refine ⟨_, rfl, _, rfl, x, PT, dx, _, rfl, upd_same, k.c, k.nA _ (by simp [ptN]), (by show 4 < 1000; decide), ?_⟩
  exact q _ (fun e o n h => by rw [upd_ne n, upd_ne n, upd_ne n, upd_ne n, upd_ne n]; exact h) upd_same
theorem scUnq : FnScope ["check", "one", "other", "place"] ["check", "one", "other"] (defScope F_unequal_sides) := ⟨rfl, rfl, rfl, by decide +kernel, rfl, by decide +kernel, by decide +kernel⟩
theorem ok_unq (G : Fun K "unequal_sides" "unequal_sides" F_unequal_sides f fd) (UF : Use P w K mg base (L2.CX P w) 4 "first_difference" ["one", "other"] (spFd K S CU) []) : FnOk P w K mg base (L2.CX P w) 5 f fd ["check", "one", "other"] (spUnq K S) := by
  refine G.okX scUnq (fun vs H Q E h => ?_) (fun cdv A outer s H vs Q E hr h => ?_)
  · obtain ⟨c, x, y, qs, rs, rfl, _⟩ := h
    rfl
  obtain ⟨c, x, y, qs, rs, rfl, hX, hY, le, q⟩ := h
  refine ⟨_, pss_cons (ps_set (i := 3) scUnq.nd rfl (Or.inl rfl) (pe_use (E := E) UF hr rfl (passes_call (takes_of rfl rfl rfl rfl) (fun _ _ _ _ h => h)) (pa_cons (pv 1) (pa_cons (pv 2) pa_nil))))
    (pss_one (ps_ret (pe_ifExp (pt_cmpR op_isN (pv 3) pe_non (nomark _)) pe_non (pe_tup (pa_cons (pv 0) (pa_cons (pv 3) pa_nil)))))), ?_⟩
  refine ⟨_, rfl, _, rfl, x, y, qs, rs, rfl, hX, hY, fun z => absurd le z, fun _ H' s' => ?_⟩
  unfold unqD at q
  unfold difV
  cases e : difN qs rs 0 with
  | none =>
    rw [e] at q
    exact ⟨_, rfl, rfl, _, rfl, iteT (q H' s')⟩
  | some k =>
    rw [e] at q
    refine ⟨_, rfl, rfl, _, rfl, iteF ⟨_, rfl, _, rfl, (by show 2 ≤ sizeLine; decide), fun t nt => ?_⟩⟩
    exact q t _ (s'.trans (new_same nt _)) upd_same
theorem scWrg : FnScope ["self", "step", "pure", "slow", "straightener", "straight"] ["self"] (defScope C_Parting_wrong) := ⟨rfl, rfl, rfl, by decide +kernel, rfl, by decide +kernel, by decide +kernel⟩
theorem ok_wrg (G : Fun K "wrong" "Parting.wrong" C_Parting_wrong f fd) (kp : PtK P w K mg base PT) (k : StepK P w K mg base C S CF CO) (kc : StcK P w K mg base S) (k0 : KP K o0 0 1) (k1 : KP K o1 1 1) (mZ : mg "ZERO" = some (.ref o0)) (mO : mg "ONE" = some (.ref o1))
    (OM' : OpM P w K mg base (L2.CX P w) 8 S "__mul__" (spOpS K S CU)) (UU : Use P w K mg base (L2.CX P w) 5 "unequal_sides" ["check", "one", "other"] (spUnq K S) []) : FnOk P w K mg base (L2.CX P w) 9 f fd ["self"] (spWrg K S PT) := by
  refine G.okX scWrg (fun vs H Q E h => ?_) (fun cdv A outer s H vs Q E hr h => ?_)
  · obtain ⟨v, a, b, c, d, ff, pp, uu, hh, rfl, _⟩ := h
    rfl
  obtain ⟨v, a, b, c, d, ff, pp, uu, hh, rfl, hP, hA, hB, hC, hD, wo, q⟩ := h
  obtain ⟨x, dx, rfl, hx⟩ := id hP
  have hr5 := hr.mono (show 5 ≤ 8 by decide)
  obtain ⟨sp, sg, sfd, cS, FS, bS⟩ := kc.scal
  refine ⟨_, (C8.pss_cut (ps_asg (pe_tup (pa_cons (pe_fld (pv 0) rfl) (pa_cons (pe_fld (pv 0) rfl) (pa_cons (pe_fld (pv 0) rfl) (pa_cons (pe_fld (pv 0) rfl) pa_nil))))) (pg_tup rfl (pgs_cons (pg_name (i := 1) scWrg.nd rfl (Or.inl rfl)) (pgs_cons (pg_name (i := 2) scWrg.nd rfl (Or.inl rfl)) (pgs_cons (pg_name (i := 3) scWrg.nd rfl (Or.inl rfl)) (pgs_cons (pg_name (i := 4) scWrg.nd rfl (Or.inl rfl)) pgs_nil))))))
    (C8.pss_cut (ps_if (pt_not (pt_chain3 op_eq op_eq op_eq (pe_fld (pv 1) rfl) (pe_fld (pv 2) rfl) (pe_fld (pv 3) rfl) (pe_fld (pv 4) rfl))) (pss_one (ps_ret (pe_tup (pa_cons pe_int (pa_cons pe_int pa_nil))))) pss_nil)
    (C8.pss_cut (ps_if (pt_cmpR (op_neD hr.units) (pe_fld (pv 3) rfl) (C8.pe_gc (v := .ref o1) rfl ⟨_, mO, rfl⟩) (nomark _)) (pss_one (ps_ret (pe_tup (pa_cons pe_int (pa_cons pe_int pa_nil))))) pss_nil)
    (C8.pss_cut (ps_if (pt_cmpR (op_eqD hr.units) (pe_fld (pv 4) rfl) (C8.pe_gc (v := .ref o0) rfl ⟨_, mZ, rfl⟩) (nomark _)) (pss_one (ps_ret (pe_tup (pa_cons pe_int (pa_cons pe_int pa_nil))))) pss_nil)
    (C8.pss_cut (ps_set (i := 5) scWrg.nd rfl (Or.inl rfl) (pe_static (E := E) (C8.pe_gc (v := .ref S) rfl ⟨_, k.m, rfl⟩) kc.rd cS FS hr bS (passes_call (takes_of rfl rfl rfl rfl) (fun _ _ _ _ h => h)) (pa_cons (pe_fld (pv 2) rfl) (pa_cons (pe_fld (pv 1) rfl) pa_nil))))
    (pss_one (ps_ret (pe_orG (pe_use (E := E) UU hr5 rfl (passes_call (takes_of rfl rfl rfl rfl) (fun _ _ _ _ h => h)) (pa_cons pe_int (pa_cons (pe_op (op_bin (E := E) OM' rfl hr (passes_call (takes_of rfl rfl rfl rfl) (fun _ _ _ _ h => h))) (pv 2) (pv 3)) (pa_cons (pv 1) pa_nil))))
      (pe_orG (pe_use (E := E) UU hr5 rfl (passes_call (takes_of rfl rfl rfl rfl) (fun _ _ _ _ h => h)) (pa_cons pe_int (pa_cons (pe_op (op_bin (E := E) OM' rfl hr (passes_call (takes_of rfl rfl rfl rfl) (fun _ _ _ _ h => h))) (pv 3) (pv 2)) (pa_cons (pv 1) pa_nil))))
      (pe_one (pe_use (E := E) UU hr5 rfl (passes_call (takes_of rfl rfl rfl rfl) (fun _ _ _ _ h => h)) (pa_cons pe_int (pa_cons (pe_op (op_bin (E := E) OM' rfl hr (passes_call (takes_of rfl rfl rfl rfl) (fun _ _ _ _ h => h))) (pv 4) (pv 2)) (pa_cons (pe_op (op_bin (E := E) OM' rfl hr (passes_call (takes_of rfl rfl rfl rfl) (fun _ _ _ _ h => h))) (pv 5) (pv 4)) pa_nil)))))))))))))), ?_⟩
  obtain ⟨fa, da, a0, ga, rfl, ha, fla, nqa, _⟩ := hA.ld
  have oA := hA.ord k
  have oB := hB.ord k
  have oC := hC.ord k
  have oD := hD.ord k
  unfold wrgD at q
  refine ⟨fun σ G => Same H G ∧ σ = [some (.ref x), some (.ref fa), some b, some c, some d, none], ?_, ?_⟩
  · refine ⟨_, rfl, x, PT, dx, _, _, rfl, hx, kp.c, kp.nA _ (by simp [ptN]), rfl, _, rfl, x, PT, dx, _, _, rfl, hx, kp.c, kp.nA _ (by simp [ptN]), rfl, _, rfl, x, PT, dx, _, _, rfl, hx, kp.c, kp.nA _ (by simp [ptN]), rfl, _, rfl, x, PT, dx, _, _, rfl, hx, kp.c, kp.nA _ (by simp [ptN]), rfl, (by show 4 ≤ sizeLine; decide), fun t nt => ?_⟩
    exact ⟨t, [_, _, _, _], rfl, SqT.of upd_same, rfl, _, [_, _, _], rfl, _, [_, _], rfl, _, [_], rfl, _, [], rfl, rfl, new_same nt _, rfl⟩
  rintro σ G ⟨s, rfl⟩
  refine ⟨fun σ G => Same H G ∧ σ = [some (.ref x), some (.ref fa), some b, some c, some d, none] ∧ ff.length = pp.length ∧ pp.length = uu.length ∧ uu.length = hh.length, ?_, ?_⟩
  · obtain ⟨ea, Ca, dxa, fsa, e1, h1', c1, n1, l1⟩ := oA
    obtain ⟨eb, Cb, dxb, fsb, rfl, h2', c2, n2, l2⟩ := oB
    obtain ⟨ec, Cc, dxc, fsc, rfl, h3', c3, n3, l3⟩ := oC
    obtain ⟨ed, Cd, dxd, fsd, rfl, h4', c4, n4, l4⟩ := oD
    have no : ¬ (ff.length = pp.length ∧ pp.length = uu.length ∧ uu.length = hh.length) → ∀ t, G t = none → Q (.ref t) (upd G t (.tup [.int 0, .int 0])) := fun n t nt => by
      rw [if_pos n] at q
      exact q t _ (s.trans (new_same nt _)) upd_same
    have il : ∀ {m n : Nat}, m ≠ n → ¬ V.int (m : Int) = V.int (n : Int) := fun h z => h (by have := V.int.inj z; omega)
    refine ⟨_, rfl, ea, Ca, dxa, _, _, e1, s _ _ h1', c1, n1, l1, _, rfl, eb, Cb, dxb, _, _, rfl, s _ _ h2', c2, n2, l2, ?_⟩
    refine ⟨rfl, _, rfl, ?_⟩
    by_cases z1 : ff.length = pp.length
    rotate_left
    · rw [decide_eq_false (il z1)]
      exact iteF ⟨_, rfl, iteT ⟨(by show 2 ≤ sizeLine; decide), fun t nt => no (fun y => z1 y.1) t nt⟩⟩
    rw [decide_eq_true (show V.int (ff.length : Int) = V.int (pp.length : Int) by rw [z1])]
    refine iteT ⟨_, rfl, ec, Cc, dxc, _, _, rfl, s _ _ h3', c3, n3, l3, rfl, _, rfl, ?_⟩
    by_cases z2 : pp.length = uu.length
    rotate_left
    · rw [decide_eq_false (il z2)]
      exact iteF ⟨_, rfl, iteT ⟨(by show 2 ≤ sizeLine; decide), fun t nt => no (fun y => z2 y.2.1) t nt⟩⟩
    rw [decide_eq_true (show V.int (pp.length : Int) = V.int (uu.length : Int) by rw [z2])]
    refine iteT ⟨_, rfl, ed, Cd, dxd, _, _, rfl, s _ _ h4', c4, n4, l4, rfl, _, rfl, ?_⟩
    by_cases z3 : uu.length = hh.length
    rotate_left
    · rw [decide_eq_false (il z3)]
      exact iteT ⟨(by show 2 ≤ sizeLine; decide), fun t nt => no (fun y => z3 y.2.2) t nt⟩
    rw [decide_eq_true (show V.int (uu.length : Int) = V.int (hh.length : Int) by rw [z3])]
    exact iteF ⟨s, rfl, z1, z2, z3⟩
  clear s
  rintro σ G ⟨s, rfl, z1, z2, z3⟩
  rw [if_neg (fun y => y ⟨z1, z2, z3⟩)] at q
  refine ⟨fun σ G => Same H G ∧ σ = [some (.ref x), some (.ref fa), some b, some c, some d, none] ∧ serS uu 1 = 1, ?_, ?_⟩
  · obtain ⟨x0, ⟨ec, Cc, dxc, fsc, rfl, h3', c3, n3, l3⟩, nq⟩ := (hC.same s).lead k
    refine ⟨_, rfl, ec, Cc, dxc, _, _, rfl, h3', c3, n3, l3, tupQ (serS uu 1), tupQ 1, nq.dp, k1.dp _, rfl, rfl, _, rfl, ?_⟩
    rw [eqv_num]
    by_cases y : serS uu 1 = 1
    · rw [decide_eq_true y]
      exact iteF ⟨s, rfl, y⟩
    · rw [decide_eq_false y]
      rw [if_pos y] at q
      exact iteT ⟨(by show 2 ≤ sizeLine; decide), fun t nt => q t _ (s.trans (new_same nt _)) upd_same⟩
  clear s
  rintro σ G ⟨s, rfl, s1⟩
  rw [if_neg (fun y => y s1)] at q
  refine ⟨fun σ G => Same H G ∧ σ = [some (.ref x), some (.ref fa), some b, some c, some d, none] ∧ serS hh 1 ≠ 0, ?_, ?_⟩
  · obtain ⟨x0, ⟨ec, Cc, dxc, fsc, rfl, h3', c3, n3, l3⟩, nq⟩ := (hD.same s).lead k
    refine ⟨_, rfl, ec, Cc, dxc, _, _, rfl, h3', c3, n3, l3, tupQ (serS hh 1), tupQ 0, nq.dp, k0.dp _, rfl, rfl, _, rfl, ?_⟩
    rw [eqv_num]
    by_cases y : serS hh 1 = 0
    · rw [decide_eq_true y]
      rw [if_pos y] at q
      exact iteT ⟨(by show 2 ≤ sizeLine; decide), fun t nt => q t _ (s.trans (new_same nt _)) upd_same⟩
    · rw [decide_eq_false y]
      exact iteF ⟨s, rfl, y⟩
  clear s
  rintro σ G ⟨s, rfl, h1⟩
  rw [if_neg h1] at q
  obtain ⟨m1, m2, m3, m4⟩ := wo z1 z2 z3 s1 h1
  obtain ⟨l2, l24⟩ := hA.le
  refine ⟨fun σ G => Same H G ∧ ∃ e, σ = [some (.ref x), some (.ref fa), some b, some c, some d, some e] ∧ StAt K S G e (scL ff.length (serS pp 1)), ?_, ?_⟩
  · obtain ⟨x0, ⟨eb, Cb, dxb, fsb, rfl, h2', c2, n2, l2'⟩, nq⟩ := (hB.same s).lead k
    obtain ⟨ea, Ca, dxa, fsa, e1, h1', c1, n1, l1⟩ := oA
    refine ⟨rfl, _, rfl, eb, Cb, dxb, _, _, rfl, h2', c2, n2, l2', _, rfl, ea, Ca, dxa, _, _, e1, s _ _ h1', c1, n1, l1, x0, serS pp 1, ff.length, rfl, nq, l2, l24, fun G2 e s2 he => ?_⟩
    exact ⟨s.trans s2, e, rfl, he.st⟩
  clear s
  rintro σ G ⟨s, e, rfl, he⟩
  have lsc : (scL ff.length (serS pp 1)).length = ff.length := by
    unfold scL
    rw [List.length_cons, List.length_replicate]
    omega
  have tru : ∀ {t : Addr} {G' : Hp} {a b : Int}, G' t = some (.tup [.int a, .int b]) → TruV K (.ref t) G' true := fun {t G' a b} h => .inr (.inl ⟨_, SqT.of h, rfl⟩)
  refine ⟨_, rfl, _, rfl, ?_⟩
  refine rd_sm (hB.same s) (hC.same s) z2 m1 fun G1 y1 s1' hy1 => ?_
  have sA := s.trans s1'
  refine ⟨_, rfl, 3, y1, .ref fa, cmpL pp uu, ff, rfl, hy1.st, hA.same sA, by rw [cmpL_len]; exact z1.symm, ?_⟩
  cases e1 : unqD 3 (cmpL pp uu) ff with
  | some ab =>
    obtain ⟨a', b'⟩ := ab
    rw [e1] at q
    exact fun t G2 s2 e2 => ⟨true, tru e2, iteT (q t G2 (sA.trans s2) e2)⟩
  | none =>
  rw [e1] at q
  refine fun G2 s2 => ⟨false, rfl, iteF ?_⟩
  have sB := sA.trans s2
  refine ⟨_, rfl, _, rfl, ?_⟩
  refine rd_sm (hC.same sB) (hB.same sB) z2.symm m2 fun G3 y3 s3' hy3 => ?_
  have sC := sB.trans s3'
  refine ⟨_, rfl, 4, y3, .ref fa, cmpL uu pp, ff, rfl, hy3.st, hA.same sC, by rw [cmpL_len, ← z2]; exact z1.symm, ?_⟩
  cases e2 : unqD 4 (cmpL uu pp) ff with
  | some ab =>
    obtain ⟨a', b'⟩ := ab
    rw [e2] at q
    exact fun t G2 s2 e2 => ⟨true, tru e2, iteT (q t G2 (sC.trans s2) e2)⟩
  | none =>
  rw [e2] at q
  refine fun G4 s4 => ⟨false, rfl, iteF ?_⟩
  have sD := sC.trans s4
  refine ⟨_, rfl, _, rfl, ?_⟩
  refine rd_sm (hD.same sD) (hB.same sD) (by omega) m3 fun G5 y5 s5' hy5 => ?_
  have sE := sD.trans s5'
  refine ⟨_, rfl, _, rfl, ?_⟩
  refine rd_sm (he.same ((s1'.trans s2).trans ((s3'.trans s4).trans s5'))) (hD.same sE) (by rw [lsc]; omega) m4 fun G6 y6 s6' hy6 => ?_
  exact ⟨5, y5, y6, _, _, rfl, hy5.st.same s6', hy6.st, by rw [cmpL_len, cmpL_len, lsc]; omega, (show GivesP H Q (unqD 5 (cmpL hh pp) (cmpL (scL ff.length (serS pp 1)) hh)) from q).same (sE.trans s6')⟩
end
end Kx
end
section
set_option maxHeartbeats 4000000
namespace Kx
open PySem PySem.Spec PyProof.Rows L2 RZ
/-! ### the law's flow -/
def spPrd (K : PySem.W.Frag) : Sp := fun vs H Q _ => ∃ (x y : V) (us fs : List Rat) (L B M C : Nat), vs = [x, y] ∧ Ls K H x us ∧ Ls K H y fs ∧ us.length = fs.length ∧ us.length ≤ 28 ∧ SmL L ∧ B ≤ 20000 ∧ SmL M ∧ C ≤ 20000 ∧ L * M < 2 ^ 9000 ∧ AllD L B us ∧ AllD M C fs ∧ GivesL K H Q (mulL us fs)
abbrev nPd : List Str := ["_law_u", "_law_w", "_law_xs", "_law_den_x", "_law_ys", "_law_den_y", "_law_n"]
section
variable {P : Program} {w : World} {K : PySem.W.Frag} {mg : Str → Option Value} {base : Heap} {f C S CF CO CN o0 o1 : Addr} {fd : FuncData} {H : Hp}
theorem scPd : FnScope nPd ["_law_u", "_law_w"] (defScope L_prod) := ⟨rfl, rfl, rfl, by decide +kernel, rfl, by decide +kernel, by decide +kernel⟩
theorem ok_lprod (F : Fun K "_law_prod" "_law_prod" L_prod f fd) (UW : Use P w K mg base CX0 1 "_law_whole" ["_law_u"] (spOol K) []) (UC : Use P w K mg base CX0 1 "_law_conv" ["_law_xs", "_law_ys"] (spConv K) []) (UL : Use P w K mg base CX0 1 "_law_low" ["_law_num_here", "_law_den"] spLowQ []) : FnOk P w K mg base CX0 2 f fd ["_law_u", "_law_w"] (spPrd K) := by
  refine F.ok scPd (fun vs H Q E h => ?_) (fun cdv A outer s H vs Q E hr h => ?_)
  · obtain ⟨x, y, us, fs, L, B, M, C, rfl, _⟩ := h
    rfl
  obtain ⟨x, y, us, fs, L, B, M, C, rfl, lx, ly, le, l28, sL, lB, sM, lC, lm, zu, zf, q⟩ := h
  refine ⟨_, pss_cons (ps_asg (pe_use UW hr rfl pass0 (pa_cons (pv 0) pa_nil)) (pg_tup rfl (pgs_cons (pg_name (i := 2) scPd.nd rfl (Or.inl rfl)) (pgs_cons (pg_name (i := 3) scPd.nd rfl (Or.inr rfl)) pgs_nil))))
    (pss_cons (ps_asg (pe_use UW hr rfl pass0 (pa_cons (pv 1) pa_nil)) (pg_tup rfl (pgs_cons (pg_name (i := 4) scPd.nd rfl (Or.inl rfl)) (pgs_cons (pg_name (i := 5) scPd.nd rfl (Or.inr rfl)) pgs_nil))))
    (pss_one (ps_ret (pe_lc (own := [("_law_n", 6)]) (g := gName 6) (tt := tYes) rfl scPd.nd (pi_list (pe_use UC hr rfl pass0 (pa_cons (pv 2) (pa_cons (pv 4) pa_nil)))) (blkOk_by (N := nPd) (sc := defScope L_prod) (by decide +kernel))
      (fun _ _ _ _ _ => pg_name (i := 6) scPd.nd rfl (Or.inl rfl)) (fun _ _ _ _ _ => pts_nil)
      (fun _ _ _ _ _ => pe_use UL hr rfl pass0 (pa_cons (pv 6) (pa_cons (pe_op op_mulW (pv 3) (pv 5)) pa_nil))))))), ?_⟩
  refine ⟨_, rfl, x, us, L, B, rfl, lx, by omega, sL, by omega, zu, fun b1 p1 H1 s1 n1 e1 t1 => ?_⟩
  refine ⟨p1, _, rfl, SqT.of t1, rfl, _, _, rfl, _, _, rfl, rfl, ?_⟩
  refine ⟨_, rfl, y, fs, M, C, rfl, ly.same s1, by omega, sM, by omega, zf, fun b2 p2 H2 s2 n2 e2 t2 => ?_⟩
  refine ⟨p2, _, rfl, SqT.of t2, rfl, _, _, rfl, _, _, rfl, rfl, ?_⟩
  have f1 := s2 _ _ e1
  have s12 := s1.trans s2
  have ux := upL_part zu sL.1
  have uy := upL_part zf sM.1
  have vx := upL_val us
  have vy := upL_val fs
  have dxp := lcmL_pos us 1 (by decide)
  have dyp := lcmL_pos fs 1 (by decide)
  have dxl : lcmL 1 us ≤ L := Nat.le_of_dvd sL.1 (AllD.lcm sL.1 us 1 zu (Nat.one_dvd _))
  have dyl : lcmL 1 fs ≤ M := Nat.le_of_dvd sM.1 (AllD.lcm sM.1 fs 1 zf (Nat.one_dvd _))
  have lux : (upL (lcmL 1 us) us).length = us.length := upL_len _ _
  have luy : (upL (lcmL 1 fs) fs).length = fs.length := upL_len _ _
  generalize upL (lcmL 1 us) us = xi at *
  generalize upL (lcmL 1 fs) fs = yi at *
  generalize lcmL 1 us = dx at *
  generalize lcmL 1 fs = dy at *
  have dxy : dx * dy < 2 ^ 9000 := Nat.lt_of_le_of_lt (Nat.mul_le_mul dxl dyl) lm
  refine ⟨_, rfl, _, rfl, b1, b2, xi, yi, B, C, rfl, SqL.of f1, SqL.of e2, by omega, by omega, ux, uy, by omega, fun c H3 s3 nc ec => ?_⟩
  have lcv : (cvI xi yi).length = us.length := by rw [cvI_len, lux]
  refine ⟨c, rfl, ⟨_, SqL.of ec⟩, fun D nD => ?_⟩
  have s13 := s12.trans s3
  refine lc_nums (K := K) (walk_list (K := K) (a := c) (xs := (cvI xi yi).map V.int)) (mulL us fs) (by rw [mulL_ser, toL_len, List.length_map, lcv]) nD (by rw [List.length_map, lcv]; omega) (fun H' s => SqL.of (s _ _ ec)) ?_ (fun H' zs s h m => q D H' zs (s13.trans s) (s13.free nD) h m)
  rintro i r z H4 H5 k hq s4 ⟨rfl, hz⟩ hk
  have hi : i < us.length := by
    rcases Nat.lt_or_ge i us.length with h | h
    · exact h
    · rw [List.getElem?_eq_none (by rw [List.length_map, lcv]; exact h)] at hz; cases hz
  rw [int_at (by omega)] at hz
  obtain rfl := Option.some.inj hz
  rw [mulL_ser, toL_get hi] at hq
  obtain rfl := Option.some.inj hq
  have val : (((cvI xi yi).getD i 0 : Int) : Rat) = mulS (ser us) (ser fs) i * ((dx * dy : Nat) : Rat) := by
    have e1 : (cvI xi yi).getD i 0 = cvp xi yi i (i + 1) := by
      unfold cvI
      rw [List.getD_eq_getElem?_getD, List.getElem?_map, List.getElem?_range (by omega)]
      exact cvp_stay xi yi i _ (by omega)
    rw [e1, cvp_val (h := ser us) (f := ser fs) (d := ((dx : Nat) : Rat)) (e := ((dy : Nat) : Rat)) (fun a _ => vx a) vy (i + 1) (Nat.le_refl _), ← Rat.natCast_mul]
    rfl
  have pos : 0 < dx * dy := Nat.mul_pos dxp dyp
  refine ⟨rfl, _, rfl, _, rfl, _, rfl, (dx : Nat), (dy : Nat), rfl, rfl, ?_, ?_⟩
  · exact wide_mul (a := 4450) (b := 4450) (by rw [Int.natAbs_natCast]; exact Nat.lt_of_le_of_lt dxl sL.2) (by rw [Int.natAbs_natCast]; exact Nat.lt_of_le_of_lt dyl sM.2) (by decide) (by decide) (by decide)
  have ep : ((dx : Nat) : Int) * (dy : Nat) = ((dx * dy : Nat) : Int) := (Int.natCast_mul _ _).symm
  refine ⟨(cvI xi yi).getD i 0, ((dx : Nat) : Int) * (dy : Nat), rfl, by rw [ep]; omega, ?_, fun t H6 s6 n6 e6 => ?_⟩
  · rw [ep]
    exact PySem.Flt.log2_lt_of (by decide) (by rw [Int.natAbs_natCast]; exact dxy)
  · rw [ep, div_of' pos val] at e6
    exact hk _ _ s6 (.at e6)
end
end Kx
end
section
set_option maxHeartbeats 4000000
namespace Kx
open PySem PySem.Spec PyProof.Rows L2 RZ
theorem xS_L (n : Nat) : toL (n + 1 + 1) xS = 0 :: 1 :: List.replicate n 0 := by
  apply List.ext_getElem?
  intro i
  rcases Nat.lt_or_ge i (n + 1 + 1) with c | c
  · rw [toL_get c]
    match i, c with
    | 0, _ => rfl
    | 1, _ => rfl
    | i + 2, c =>
      show some (xS (i + 2)) = (List.replicate n (0 : Rat))[i]?
      rw [List.getElem?_replicate, if_pos (by omega)]
      rfl
  · rw [List.getElem?_eq_none (by rw [toL_len]; exact c), List.getElem?_eq_none (by simp; omega)]
section
variable {P : Program} {w : World} {K : PySem.W.Frag} {mg : Str → Option Value} {base : Heap} {f C S CF CO CN SD o0 o1 : Addr} {fd : FuncData} {H : Hp}
end
end Kx
end
section
set_option maxHeartbeats 4000000
namespace Kx
open PySem PySem.Spec PyProof.Rows L2 RZ
theorem allD_toL {L B n : Nat} {F : Ser} (h : ∀ k, k < n → Dq L B (F k)) : AllD L B (toL n F) := fun q hq => by
  obtain ⟨i, hi⟩ := List.getElem?_of_mem hq
  rcases Nat.lt_or_ge i n with c | c
  · rw [toL_get c] at hi
    rw [← Option.some.inj hi]
    exact h i c
  · rw [List.getElem?_eq_none (by rw [toL_len]; exact c)] at hi
    cases hi
end Kx
end
section
set_option maxHeartbeats 4000000
namespace Kx
open PySem PySem.Spec PyProof.Rows L2 RZ
section
variable {P : Program} {w : World} {K : PySem.W.Frag} {mg : Str → Option Value} {base : Heap} {f o0 : Addr} {fd : FuncData}
end
section
variable {P : Program} {w : World} {K : PySem.W.Frag} {mg : Str → Option Value} {base : Heap} {f fL : Addr} {fd fdL : FuncData}
theorem scSub : FnScope nPQ ["_law_p", "_law_q"] (defScope L_sub) := ⟨rfl, rfl, rfl, by decide +kernel, rfl, by decide +kernel, by decide +kernel⟩
theorem ok_subQ (F : Fun K "_law_sub" "_law_sub" L_sub f fd) (G : FnOk P w K mg base CX0 1 fL fdL ["_law_num_here", "_law_den"] spLowQ) (bL : Binds K fdL ["_law_num_here", "_law_den"] []) (kL : PySem.W.keepIn K (.ref fL) = true) (mL : mg "_law_low" = some (.ref fL)) :
    FnOk P w K mg base CX0 2 f fd ["_law_p", "_law_q"] (spTwoQ K (· - ·)) := by
  refine F.ok scSub (fun vs H Q E h => ?_) (fun cdv A outer s H vs Q E hr h => ?_)
  · obtain ⟨x, y, a, b, rfl, _⟩ := h
    rfl
  obtain ⟨x, y, a, b, rfl, hx, hy, ba, bb, q⟩ := h
  obtain ⟨xa, rfl, sx, _⟩ := hx.sq
  obtain ⟨ya, rfl, sy, _⟩ := hy.sq
  refine ⟨_, pss_one (ps_ret (pe_call G hr rfl mL kL bL .nil pass0 (pa_cons (pe_op op_sub (pe_op op_mulW (pe_ix ix_tup (pv 0) pe_int (fun _ _ => rfl)) (pe_ix ix_tup (pv 1) pe_int (fun _ _ => rfl))) (pe_op op_mulW (pe_ix ix_tup (pv 1) pe_int (fun _ _ => rfl)) (pe_ix ix_tup (pv 0) pe_int (fun _ _ => rfl))))
      (pa_cons (pe_op op_mulW (pe_ix ix_tup (pv 0) pe_int (fun _ _ => rfl)) (pe_ix ix_tup (pv 1) pe_int (fun _ _ => rfl))) pa_nil)))), ?_⟩
  exact ⟨_, rfl, xa, _, 0, _, rfl, rfl, sx, rfl, _, rfl, ya, _, 1, _, rfl, rfl, sy, rfl, a.num, (b.den : Nat), rfl, rfl, wide_mul ba.1 bb.dn (by decide) (by decide) (by decide), _, rfl, ya, _, 0, _, rfl, rfl, sy, rfl, _, rfl, xa, _, 1, _, rfl, rfl, sx, rfl, b.num, (a.den : Nat), rfl, rfl, wide_mul bb.1 ba.dn (by decide) (by decide) (by decide), _, _, rfl, rfl,
      _, rfl, xa, _, 1, _, rfl, rfl, sx, rfl, _, rfl, ya, _, 1, _, rfl, rfl, sy, rfl, (a.den : Nat), (b.den : Nat), rfl, rfl, wide_mul ba.dn bb.dn (by decide) (by decide) (by decide), _, _, rfl, Int.mul_ne_zero (den_ne a) (den_ne b), log_two ba.dn bb.dn, by rw [← rat_sub]; exact q⟩
end
end Kx
end
section
set_option maxHeartbeats 4000000
namespace Kx
open PySem PySem.Spec PyProof.Rows L2 RZ
/-! ### the law's row that was put before another -/
/-- what is left of the goal when the numbers of c below j are taken off -/
def lfS (c h : Ser) (j : Nat) : Ser := fun k => cmpS c h k - sumN (fun i => c i * powS h i k) j
theorem lf_at {c h : Ser} (j : Nat) : lfS c h j j = c j * powS h j j := by
  have r : cmpS c h j = sumN (fun i => c i * powS h i j) j + c j * powS h j j := rfl
  show cmpS c h j - sumN (fun i => c i * powS h i j) j = c j * powS h j j
  rw [r]
  grind
theorem lf_next (c h : Ser) (j k : Nat) : lfS c h (j + 1) k = lfS c h j k - powS h j k * c j := by
  show cmpS c h k - (sumN (fun i => c i * powS h i k) j + c j * powS h j k) = cmpS c h k - sumN (fun i => c i * powS h i k) j - powS h j k * c j
  grind
theorem lf_1 {c : Ser} (h : Ser) (c0 : c 0 = 0) (k : Nat) : lfS c h 1 k = cmpS c h k := by
  show cmpS c h k - (0 + c 0 * powS h 0 k) = cmpS c h k
  rw [c0]
  grind
theorem toL_lf (c h : Ser) (j n : Nat) : (toL n (lfS c h j)).zipWith (· - ·) ((toL n (powS h j)).map (· * c j)) = toL n (lfS c h (j + 1)) := by
  apply List.ext_getElem?
  intro k
  rw [List.getElem?_zipWith, List.getElem?_map]
  rcases Nat.lt_or_ge k n with e | e
  · rw [toL_get e, toL_get e, toL_get e, lf_next]
    rfl
  · rw [List.getElem?_eq_none (l := toL n (lfS c h j)) (by rw [toL_len]; exact e), List.getElem?_eq_none (l := toL n (lfS c h (j + 1))) (by rw [toL_len]; exact e)]
/-- what finding c may take -/
structure LeOk (c h : Ser) (N : Nat) : Prop where
  c0 : c 0 = 0
  h0 : h 0 = 0
  h1 : h 1 ≠ 0
  N1 : 1 ≤ N
  N11 : N ≤ 11
  ex : ∃ L B M Z : Nat, SmL (L * M) ∧ B + Z + 10 ≤ 20000 ∧ (∀ k, k ≤ N → Dq L B (c k)) ∧ Gl M Z h N
  dg : ∀ k, 1 ≤ k → k ≤ N → (powS h k k).num.natAbs < 2 ^ 4450
def spLed (K : PySem.W.Frag) : Sp := fun vs H Q _ => ∃ (x y : V) (c h : Ser) (N : Nat), vs = [x, y] ∧ Ls K H x (toL (N + 1) (cmpS c h)) ∧ Ls K H y (toL (N + 1) h) ∧ LeOk c h N ∧ GivesL K H Q (toL (N + 1) c)
def spBac (K : PySem.W.Frag) : Sp := fun vs H Q _ => ∃ (y : V) (h : Ser) (N : Nat), vs = [y] ∧ Ls K H y (toL (N + 1) h) ∧ LeOk (invS h) h N ∧ GivesL K H Q (toL (N + 1) (invS h))
def spLrn (K : PySem.W.Frag) : Sp := fun vs H Q _ => ∃ (x y : V) (F h : Ser) (N L B M C : Nat), vs = [x, y] ∧ Ls K H x (toL (N + 1) F) ∧ Ls K H y (toL (N + 1) h) ∧ F 0 = 0 ∧ LeOk (cmpS (cmpS h F) (invS h)) h N ∧ SmL L ∧ B ≤ 20000 ∧ SmL M ∧ C ≤ 20000 ∧ L * M ^ (N + 1) < 2 ^ 9000 ∧ AllD L B (toL (N + 1) h) ∧ AllD M C (toL (N + 1) F) ∧
  GivesL K H Q (toL (N + 1) (cmpS (cmpS h F) (invS h)))
abbrev nLd : List Str := ["_law_goal", "_law_h", "_law_found", "_law_left", "_law_run", "_law_j", "_law_p"]
theorem xL_x {N : Nat} (N1 : 1 ≤ N) : xL N = toL (N + 1) xS := by
  obtain ⟨m, rfl⟩ : ∃ m, N = m + 1 := ⟨N - 1, by omega⟩
  rw [xS_L]
  rfl
section
variable {P : Program} {w : World} {K : PySem.W.Frag} {mg : Str → Option Value} {base : Heap} {f o0 : Addr} {fd : FuncData}
theorem scLed : FnScope nLd ["_law_goal", "_law_h"] (defScope L_led) := ⟨rfl, rfl, rfl, by decide +kernel, rfl, by decide +kernel, by decide +kernel⟩
theorem ok_lled (F : Fun K "_law_led" "_law_led" L_led f fd) (mn : mg "len" = none) (mr : mg "range" = none) (UV : Use P w K mg base CX0 2 "_law_div" ["_law_p", "_law_q"] (spDivQ K) []) (UE : Use P w K mg base CX0 3 "_law_less" ["_law_u", "_law_w"] (spTwoL K (· - ·)) []) (UC : Use P w K mg base CX0 3 "_law_scaled" ["_law_u", "_law_p"] (spMulsL K) []) (UP : Use P w K mg base CX0 2 "_law_prod" ["_law_u", "_law_w"] (spPrd K) []) : FnOk P w K mg base CX0 4 f fd ["_law_goal", "_law_h"] (spLed K) := by
  refine F.ok scLed (fun vs H Q E h => ?_) (fun cdv A outer s H vs Q E hr h => ?_)
  · obtain ⟨x, y, c, h, N, rfl, _⟩ := h
    rfl
  obtain ⟨x, y, c, h, N, rfl, lx, ly, hL, q⟩ := h
  obtain ⟨c0, h0, h1, N1, N11, ⟨L, B, M, Z, sLM, lBZ, cd, gl⟩, dg⟩ := hL
  have hr2 := hr.mono (show 2 ≤ 3 by decide)
  refine ⟨_, pss_cons (ps_par3 (i := 2) (j := 3) (l := 4) rfl scLed.nd rfl rfl rfl (by decide) (by decide) (by decide) rfl rfl rfl (pa_cons (pe_lst (pa_cons (pe_ix ix_list (pv 0) pe_int (fun _ _ => rfl)) pa_nil)) (pa_cons (pv 0) (pa_cons (pv 1) pa_nil))) rfl)
    (pss_cons (ps_for PassesOwn.never rfl (pi_range2 rfl mr (pa_cons pe_int (pa_cons (pe_callB call_len_seq rfl mn PySem.boot_len (pa_cons (pv 1) pa_nil)) pa_nil))) (pg_name (i := 5) scLed.nd rfl (Or.inl rfl))
      (pss_cons (ps_set (i := 6) scLed.nd rfl (Or.inl rfl) (pe_use UV hr2 rfl pass0 (pa_cons (pe_ix ix_list (pv 3) (pv 5) (fun _ _ => rfl)) (pa_cons (pe_ix ix_list (pv 4) (pv 5) (fun _ _ => rfl)) pa_nil))))
      (pss_cons (ps_expr (pe_bm PySem.F.plainAttrs_list PySem.F.slot_list_append PySem.F.type_list_append mt_append (pv 2) (pa_cons (pv 6) pa_nil)))
      (pss_cons (ps_set (i := 3) scLed.nd rfl (Or.inl rfl) (pe_use UE hr rfl pass0 (pa_cons (pv 3) (pa_cons (pe_use UC hr rfl pass0 (pa_cons (pv 4) (pa_cons (pv 6) pa_nil))) pa_nil))))
      (pss_one (ps_set (i := 4) scLed.nd rfl (Or.inl rfl) (pe_use UP hr2 rfl pass0 (pa_cons (pv 4) (pa_cons (pv 1) pa_nil)))))))))
    (pss_one (ps_ret (pv 2)))), ?_⟩
  obtain ⟨xa, xs, rfl, hx, nx⟩ := id lx
  obtain ⟨ya, ys, rfl, hy, ny⟩ := id ly
  have hl : ys.length = N + 1 := by rw [ny.1, toL_len]
  obtain ⟨x0, ex0, nx0⟩ := nx.get' (i := 0) (by rw [toL_len]; omega)
  refine ⟨_, rfl, xa, xs, 0, x0, rfl, rfl, SqL.of hx, at_of (j := 0) rfl ex0, (by show 1 ≤ sizeLine; decide), fun fb nf => ?_⟩
  refine ⟨_, rfl, _, rfl, _, _, _, rfl, ?_⟩
  have sf := new_same nf (HO.lst [x0])
  have ef : upd H fb (.lst [x0]) fb = some (.lst [x0]) := upd_same
  have n0 : Nl K (upd H fb (.lst [x0])) [x0] (toL 1 c) := by
    have e0 : (toL (N + 1) (cmpS c h))[0]'(by rw [toL_len]; omega) = 0 := by
      have := toL_get (n := N + 1) (f := cmpS c h) (i := 0) (by omega)
      rw [List.getElem?_eq_getElem (by rw [toL_len]; omega)] at this
      rw [Option.some.inj this, cmpS_zero, c0]
    rw [e0] at nx0
    have z0 : toL 1 c = [0] := by
      show [c 0] = [0]
      rw [c0]
    rw [z0]
    exact Nl.cons (nx0.same sf) Nl.nil
  generalize upd H fb (.lst [x0]) = H0 at sf ef n0
  have sL := sLM.left
  have sM := sLM.right
  have MM : M * M < 2 ^ 9000 := by
    have := Nat.mul_lt_mul'' sM.2 sM.2
    rw [← Nat.pow_add] at this
    exact Nat.lt_of_lt_of_le this (Nat.pow_le_pow_right (by decide) (by decide))
  have eh : toL (N + 1) h = toL (N + 1) (powS h 1) := by rw [powS_one]
  have ex : toL (N + 1) (cmpS c h) = toL (N + 1) (lfS c h 1) := toL_eq fun k hk => (lf_1 _ c0 k).symm
  have cpD : ∀ i k, i ≤ N → k ≤ N → Dq (L * M) (B + Z) (c i * powS h i k) := fun i k hi hk => by
    rcases Nat.eq_zero_or_pos i with e | e
    · rw [e, c0, Rat.zero_mul]
      exact Dq.zero
    · exact (cd i hi).mul (gl i k e hk)
  have lfD : ∀ j k, j ≤ N + 1 → k ≤ N → Dq (L * M) (B + Z + 6) (lfS c h j k) := fun j k hj hk =>
    Dq.sub (B := B + Z + 4) (C := B + Z + 4) (dq_sum (c := 4) _ (fun i hi => cpD i k (by omega) hk) (by omega)) (dq_sum (c := 4) _ (fun i hi => cpD i k (by omega) hk) (by omega)) (by omega) (by omega)
  have nfx : V.ref xa ≠ .ref fb := fun z => by rw [V.ref.inj z, nf] at hx; cases hx
  have nfy : V.ref ya ≠ .ref fb := fun z => by rw [V.ref.inj z, nf] at hy; cases hy
  refine ⟨_, rfl, ya, ys, rfl, .inl (SqL.of (sf _ _ hy)), ?_⟩
  refine ⟨1, ((ys.length : Nat) : Int), rfl, ⟨by omega, by omega, by omega, by omega⟩, for_range (lo := 1) (n := (((ys.length : Nat) : Int) - 1).toNat) (fun i σ H' => Same H H' ∧ ∃ (v3 v4 : V) (v5 v6 : Option V) (zs : List V), σ = [some (.ref xa), some (.ref ya), some (.ref fb), some v3, some v4, v5, v6] ∧ v3 ≠ .ref fb ∧ v4 ≠ .ref fb ∧ H' fb = some (.lst zs) ∧ Nl K H' zs (toL (i + 1) c) ∧ Ls K H' v3 (toL (N + 1) (lfS c h (i + 1))) ∧ Ls K H' v4 (toL (N + 1) (powS h (i + 1)))) ⟨sf, .ref xa, .ref ya, none, none, _, rfl, nfx, nfy, ef, n0, by rw [← ex]; exact lx.same sf, by rw [← eh]; exact ly.same sf⟩ ?_ ?_⟩
  · rintro i σ H3 hi ⟨s3, v3, v4, v5, v6, zs, rfl, ne3, ne4, hf, nz, L3, L4⟩
    have hi' : i + 1 ≤ N := by omega
    rw [show (1 + (i : Int)) = ((i + 1 : Nat) : Int) by omega]
    obtain ⟨la, ls, rfl, hla, nl⟩ := id L3
    obtain ⟨ra, rs, rfl, hra, nr⟩ := id L4
    obtain ⟨lv, elv, nlv⟩ := nl.get' (i := i + 1) (by rw [toL_len]; omega)
    obtain ⟨rv, erv, nrv⟩ := nr.get' (i := i + 1) (by rw [toL_len]; omega)
    have el : (toL (N + 1) (lfS c h (i + 1)))[i + 1]'(by rw [toL_len]; omega) = c (i + 1) * powS h (i + 1) (i + 1) := by
      have := toL_get (n := N + 1) (f := lfS c h (i + 1)) (i := i + 1) (by omega)
      rw [List.getElem?_eq_getElem (by rw [toL_len]; omega)] at this
      rw [Option.some.inj this]
      exact lf_at (i + 1)
    have er : (toL (N + 1) (powS h (i + 1)))[i + 1]'(by rw [toL_len]; omega) = powS h (i + 1) (i + 1) := by
      have := toL_get (n := N + 1) (f := powS h (i + 1)) (i := i + 1) (by omega)
      rw [List.getElem?_eq_getElem (by rw [toL_len]; omega)] at this
      exact Option.some.inj this
    rw [el] at nlv
    rw [er] at nrv
    have dn := pow_dg_ne h0 h1 (i + 1)
    have oc : Ok (c (i + 1) * powS h (i + 1) (i + 1)) := (cpD (i + 1) (i + 1) hi' hi').ok sLM (by omega)
    have oC : Ok (c (i + 1)) := (cd (i + 1) hi').ok sL (by omega)
    refine ⟨_, rfl, _, rfl, la, ls, ((i + 1 : Nat) : Int), lv, rfl, rfl, SqL.of hla, at_of (j := i + 1) rfl elv, _, rfl, _, rfl, ra, rs, ((i + 1 : Nat) : Int), rv, rfl, rfl, SqL.of hra, at_of (j := i + 1) rfl erv, ?_⟩
    refine ⟨lv, rv, _, _, rfl, nlv, nrv, oc, (gl (i + 1) (i + 1) (by omega) hi').ok sM (by omega), dn, dg (i + 1) (by omega) hi', fun p H4 s4 np ep => ?_⟩
    rw [Rat.mul_div_cancel dn] at ep
    have hf4 := s4 _ _ hf
    refine ⟨_, rfl, .inl ⟨rfl, _, SqL.of hf4⟩, _, rfl, fb, zs, _, rfl, rfl, hf4, small1000 (by have := nz.1; rw [toL_len] at this; omega), ?_⟩
    have bu : But fb H4 (upd H4 fb (.lst (zs ++ [V.ref p]))) := fun e o n h => by rw [upd_ne n]; exact h
    have nb : Nl K (upd H4 fb (.lst (zs ++ [V.ref p]))) (zs ++ [V.ref p]) (toL (i + 1 + 1) c) := by
      have r : toL (i + 1 + 1) c = toL (i + 1) c ++ [c (i + 1)] := by
        unfold toL
        rw [List.range_succ, List.map_append]
        rfl
      rw [r]
      have n4 : Nl K H4 (zs ++ [V.ref p]) _ := (nz.same s4).snoc (.at ep)
      exact ⟨n4.1, fun j x r h1 h2 => (n4.2 j x r h1 h2).butL hf4 bu⟩
    have L35 := (L3.same s4).butL hf4 ne3 bu
    have L45 := (L4.same s4).butL hf4 ne4 bu
    have p5 : Nq K (upd H4 fb (.lst (zs ++ [V.ref p]))) (.ref p) (c (i + 1)) := (Nq.at (K := K) ep).butL hf4 bu
    have s05 : Same H (upd H4 fb (.lst (zs ++ [V.ref p]))) := fun e o h => by
      rw [upd_ne (fun z => by rw [z, nf] at h; cases h)]
      exact (s3.trans s4) e o h
    have hf5 : upd H4 fb (.lst (zs ++ [V.ref p])) fb = some (.lst (zs ++ [V.ref p])) := upd_same
    generalize upd H4 fb (.lst (zs ++ [V.ref p])) = H5 at nb L35 L45 p5 s05 hf5
    have aR : AllD M Z (toL (N + 1) (powS h (i + 1))) := allD_toL fun k hk => gl (i + 1) k (by omega) (by omega)
    refine ⟨_, rfl, _, rfl, _, rfl, .ref ra, .ref p, _, _, rfl, L45, p5, by rw [toL_len]; omega, aR.ok sM (by omega), oC, fun c' H6 us s6 nc hc mc => ?_⟩
    refine ⟨.ref la, .ref c', _, _, rfl, L35.same s6, ⟨c', us, rfl, hc, mc⟩, by rw [List.length_map, toL_len, toL_len], by rw [toL_len]; omega, AllD.ok (L := L * M) (B := B + Z + 6) (allD_toL fun k hk => lfD (i + 1) k (by omega) (by omega)) sLM (by omega), ?_, fun e H7 us2 s7 ne he me => ?_⟩
    · refine AllD.ok (L := L * M) (B := B + Z) (fun r hr => ?_) sLM (by omega)
      obtain ⟨a, ha, rfl⟩ := List.mem_map.mp hr
      have := (cd (i + 1) hi').mul (aR a ha)
      rw [Rat.mul_comm] at this
      exact this
    rw [toL_lf] at me
    have s67 := s6.trans s7
    refine ⟨_, rfl, _, rfl, .ref ra, .ref ya, _, _, M, Z, M, Z, rfl, L45.same s67, (ly.same s05).same s67, by rw [toL_len, toL_len], by rw [toL_len]; omega, sM, by omega, sM, by omega, MM, aR, ?_, fun g H8 us3 s8 ng hg mg => ?_⟩
    · exact allD_toL fun k hk => gl.one (by omega)
    have eP : mulL (toL (N + 1) (powS h (i + 1))) (toL (N + 1) h) = toL (N + 1) (powS h (i + 1 + 1)) := by
      rw [mulL_toL]
      rfl
    rw [eP] at mg
    have hf7 := s67 _ _ hf5
    refine ⟨s05.trans (s67.trans s8), .ref e, .ref g, _, _, _, rfl, (fun z => by rw [V.ref.inj z, s6 _ _ hf5] at ne; cases ne), (fun z => by rw [V.ref.inj z, hf7] at ng; cases ng), s8 _ _ hf7, nb.same (s67.trans s8), ⟨e, us2, rfl, s8 _ _ he, me.same s8⟩, ⟨g, us3, rfl, hg, mg⟩⟩
  · rintro σ H3 ⟨s3, v3, v4, v5, v6, zs, rfl, ne3, ne4, hf, nz, L3, L4⟩
    rw [show (((ys.length : Nat) : Int) - 1).toNat = N by omega] at nz
    exact ⟨_, rfl, q fb H3 zs s3 nf hf nz⟩
theorem scLbk : FnScope ["_law_h"] ["_law_h"] (defScope L_back) := ⟨rfl, rfl, rfl, by decide +kernel, rfl, by decide +kernel, by decide +kernel⟩
theorem ok_lback (F : Fun K "_law_back" "_law_back" L_back f fd) (mn : mg "len" = none) (UX : Use P w K mg base CX0 1 "_law_x" ["_law_deg"] (spX K) []) (UL : Use P w K mg base CX0 4 "_law_led" ["_law_goal", "_law_h"] (spLed K) []) : FnOk P w K mg base CX0 5 f fd ["_law_h"] (spBac K) := by
  refine F.ok scLbk (fun vs H Q E h => ?_) (fun cdv A outer s H vs Q E hr h => ?_)
  · obtain ⟨y, h, N, rfl, _⟩ := h
    rfl
  obtain ⟨y, h, N, rfl, ly, hL, q⟩ := h
  have hr1 := hr.mono (show 1 ≤ 4 by decide)
  refine ⟨_, pss_one (ps_ret (pe_use UL hr rfl pass0 (pa_cons (pe_use UX hr1 rfl pass0 (pa_cons (pe_op op_sub (pe_callB call_len_seq rfl mn PySem.boot_len (pa_cons (pv 0) pa_nil)) pe_int) pa_nil)) (pa_cons (pv 0) pa_nil)))), ?_⟩
  obtain ⟨ya, ys, rfl, hy, ny⟩ := id ly
  have hl : ys.length = N + 1 := by rw [ny.1, toL_len]
  have N1 := hL.N1
  have N11 := hL.N11
  refine ⟨_, rfl, ya, ys, rfl, .inl (SqL.of hy), _, 1, rfl, rfl, N, (by show [V.int (((ys.length : Nat) : Int) - 1)] = _; rw [hl]; congr 2; omega), by omega, by omega, fun b H2 ws s2 nb hb mb => ?_⟩
  rw [xL_x (by omega), ← inv_x hL.h0 hL.h1] at mb
  exact ⟨_, rfl, .ref b, .ref ya, invS h, h, N, rfl, ⟨b, ws, rfl, hb, mb⟩, ly.same s2, hL, fun c H3 us s3 nc hc mc => q c H3 us (s2.trans s3) (s2.free nc) hc mc⟩
end
end Kx
end
section
set_option maxHeartbeats 4000000
namespace Kx
open PySem PySem.Spec PyProof.Rows L2 RZ
/-! ### renamers, drifts that may be nought -/
def LdP (c : Rat) : Prop := ∃ b, LdQ c b
def spRnm (K : PySem.W.Frag) : Sp := fun vs H Q _ => ∃ (n : Nat) (B p : Addr) (deg : Nat), vs = [.ref B, .int (deg : Nat)] ∧ Bag (n + 41) H B p ∧ 2 ≤ deg ∧ deg ≤ 11 ∧ ∀ H' v c rs, Bag n H' B p → But B H H' → Ls K H' v (0 :: c :: rs) → rs.length + 1 = deg → (∀ r ∈ rs, NumQ r) → LdP c → Q v H'
def spAny (K : PySem.W.Frag) : Sp := fun vs H Q _ => ∃ (n : Nat) (B p : Addr) (deg : Nat), vs = [.ref B, .int (deg : Nat)] ∧ Bag (n + 63) H B p ∧ 2 ≤ deg ∧ deg ≤ 11 ∧ ∀ H' v rs d, Bag n H' B p → But B H H' → Ls K H' v (0 :: 0 :: rs) → rs.length + 1 = deg → 0 < d → d ≤ 99 → (∀ r ∈ rs, TlQ d r) → Q v H'
section
variable {P : Program} {w : World} {K : PySem.W.Frag} {mg : Str → Option Value} {base : Heap} {f o0 : Addr} {fd : FuncData}
theorem scRnm : FnScope ["_law_bag_here", "_law_deg"] ["_law_bag_here", "_law_deg"] (defScope L_renamer) := ⟨rfl, rfl, rfl, by decide +kernel, rfl, by decide +kernel, by decide +kernel⟩
theorem ok_renamer (F : Fun K "_law_renamer" "_law_renamer" L_renamer f fd) (UO : Use P w K mg base CX0 2 "_law_of" ["_law_bag_here", "_law_things"] spOfL []) (US : Use P w K mg base CX0 3 "_law_step" ["_law_bag_here", "_law_deg", "_law_cc"] (spStp K) []) : FnOk P w K mg base CX0 4 f fd ["_law_bag_here", "_law_deg"] (spRnm K) := by
  refine F.ok scRnm (fun vs H Q E h => ?_) (fun cdv A outer s H vs Q E hr h => ?_)
  · obtain ⟨n, B, p, deg, rfl, _⟩ := h
    rfl
  obtain ⟨n, B, p, deg, rfl, hb, d2, d11, q⟩ := h
  refine ⟨_, pss_one (ps_ret (pe_use US hr rfl pass0 (pa_cons (pv 0) (pa_cons (pv 1) (pa_cons (pe_use UO (hr.mono (by decide)) rfl pass0 (pa_cons (pv 0) (pa_cons (pe_lst (pa_cons (pe_tup (pa_cons pe_int (pa_cons pe_int pa_nil))) (pa_cons (pe_tup (pa_cons pe_int (pa_cons pe_int pa_nil))) (pa_cons (pe_tup (pa_cons pe_int (pa_cons pe_int pa_nil))) (pa_cons (pe_tup (pa_cons (pe_un un_neg pe_int) (pa_cons pe_int pa_nil))) (pa_cons (pe_tup (pa_cons pe_int (pa_cons pe_int pa_nil))) (pa_cons (pe_tup (pa_cons pe_int (pa_cons pe_int pa_nil))) (pa_cons (pe_tup (pa_cons (pe_un un_neg pe_int) (pa_cons pe_int pa_nil))) pa_nil)))))))) pa_nil))) pa_nil))))), ?_⟩
  refine ⟨_, rfl, _, rfl, _, rfl, ⟨(by show 2 ≤ sizeLine; decide), fun t1 m1 => ⟨(by show 2 ≤ sizeLine; decide), fun t2 m2 => ⟨(by show 2 ≤ sizeLine; decide), fun t3 m3 => ⟨_, rfl, (by show 2 ≤ sizeLine; decide), fun t4 m4 => ⟨(by show 2 ≤ sizeLine; decide), fun t5 m5 => ⟨(by show 2 ≤ sizeLine; decide), fun t6 m6 => ⟨_, rfl, (by show 2 ≤ sizeLine; decide), fun t7 m7 => ⟨(by show 7 ≤ sizeLine; decide), fun l nl => ?_⟩⟩⟩⟩⟩⟩⟩⟩⟩
  have e1 := new_same m1 (HO.tup [.int 1, .int 1])
  have e2 := new_same m2 (HO.tup [.int 1, .int 1])
  have e3 := new_same m3 (HO.tup [.int 2, .int 1])
  have e4 := new_same m4 (HO.tup [.int (-1), .int 1])
  have e5 := new_same m5 (HO.tup [.int 1, .int 2])
  have e6 := new_same m6 (HO.tup [.int 1, .int 3])
  have e7 := new_same m7 (HO.tup [.int (-2), .int 1])
  have el := new_same nl (HO.lst [V.ref t1, V.ref t2, V.ref t3, V.ref t4, V.ref t5, V.ref t6, V.ref t7])
  have r7 := el
  have r6 := e7.trans r7
  have r5 := e6.trans r6
  have r4 := e5.trans r5
  have r3 := e4.trans r4
  have r2 := e3.trans r3
  have r1 := e2.trans r2
  have sA := e1.trans r1
  have sT := e1.trans (e2.trans (e3.trans (e4.trans (e5.trans (e6.trans e7)))))
  refine ⟨n + 40, B, p, l, _, rfl, upd_same, ((hb.same sT).at nl).1, (by show 0 < 7; decide), (by show 7 ≤ 1000; decide), hb.same sA, fun H2 x b2 u2 hx => ?_⟩
  have uu : But B H H2 := (But.same sA).trans u2
  have k : ∀ (t : Addr) (c : Rat), upd (upd (upd (upd (upd (upd (upd (upd H t1 (HO.tup [.int 1, .int 1])) t2 (HO.tup [.int 1, .int 1])) t3 (HO.tup [.int 2, .int 1])) t4 (HO.tup [.int (-1), .int 1])) t5 (HO.tup [.int 1, .int 2])) t6 (HO.tup [.int 1, .int 3])) t7 (HO.tup [.int (-2), .int 1])) l (HO.lst [V.ref t1, V.ref t2, V.ref t3, V.ref t4, V.ref t5, V.ref t6, V.ref t7]) t = some (rT c) → LdP c → spStp K [.ref B, .int (deg : Nat), .ref t] H2 Q E := fun t c e lc => ⟨n, B, p, deg, .ref t, c, rfl, b2, d2, d11, (Nq.at (K := K) e).go (hb.same sA) (Go.of u2), fun H3 v rs b3 u3 lv lr nq => q H3 v c rs b3 (uu.trans u3) lv lr nq lc⟩
  simp only [List.mem_cons, List.not_mem_nil, or_false] at hx
  rcases hx with rfl | rfl | rfl | rfl | rfl | rfl | rfl
  · exact k _ (1) (r1 _ _ upd_same) ⟨1, by decide +kernel, ⟨6, by decide +kernel, by decide⟩, ⟨2, by decide +kernel, by decide⟩⟩
  · exact k _ (1) (r2 _ _ upd_same) ⟨1, by decide +kernel, ⟨6, by decide +kernel, by decide⟩, ⟨2, by decide +kernel, by decide⟩⟩
  · exact k _ (2) (r3 _ _ upd_same) ⟨mkRat 1 2, by decide +kernel, ⟨12, by decide +kernel, by decide⟩, ⟨1, by decide +kernel, by decide⟩⟩
  · exact k _ ((-1)) (r4 _ _ upd_same) ⟨(-1), by decide +kernel, ⟨-6, by decide +kernel, by decide⟩, ⟨-2, by decide +kernel, by decide⟩⟩
  · exact k _ (mkRat 1 2) (r5 _ _ upd_same) ⟨2, by decide +kernel, ⟨3, by decide +kernel, by decide⟩, ⟨4, by decide +kernel, by decide⟩⟩
  · exact k _ (mkRat 1 3) (r6 _ _ upd_same) ⟨3, by decide +kernel, ⟨2, by decide +kernel, by decide⟩, ⟨6, by decide +kernel, by decide⟩⟩
  · exact k _ ((-2)) (r7 _ _ upd_same) ⟨mkRat (-1) 2, by decide +kernel, ⟨-12, by decide +kernel, by decide⟩, ⟨-1, by decide +kernel, by decide⟩⟩
end
end Kx
end
section
set_option maxHeartbeats 4000000
namespace Kx
open PySem PySem.Spec PyProof.Rows L2 RZ
theorem inv_inv' {h : Ser} (h0 : h 0 = 0) (h1 : h 1 ≠ 0) : invS (invS h) = h := by
  have n1 : invS h 1 ≠ 0 := fun z => by
    have := inv_one h0 h1
    rw [z, Rat.zero_mul] at this
    exact absurd this (by decide)
  exact (invS_uni rfl n1 h0 (x_inv h0 h1)).symm
theorem inv_ne {h : Ser} (h0 : h 0 = 0) (h1 : h 1 ≠ 0) : invS h 1 ≠ 0 := fun z => by
  have := inv_one h0 h1
  rw [z, Rat.zero_mul] at this
  exact absurd this (by decide)
/-! ### a step that is turned back, and what it takes -/
structure Tn (h : Ser) (N : Nat) : Prop where
  h0 : h 0 = 0
  h1 : h 1 ≠ 0
  ex : ∃ M Z : Nat, 0 < M ∧ M < 2 ^ 70 ∧ Z ≤ 4000 ∧ Gl M Z h N ∧ Gl M Z (invS h) N
  dg : ∀ k, 1 ≤ k → k ≤ N → (powS h k k).num.natAbs < 2 ^ 4450 ∧ (powS (invS h) k k).num.natAbs < 2 ^ 4450
theorem Tn.back {h : Ser} {N : Nat} (t : Tn h N) : Tn (invS h) N := by
  obtain ⟨M, Z, m0, m, z, g1, g2⟩ := t.ex
  refine ⟨rfl, inv_ne t.h0 t.h1, ⟨M, Z, m0, m, z, g2, by rw [inv_inv' t.h0 t.h1]; exact g1⟩, fun k k1 hk => ?_⟩
  rw [inv_inv' t.h0 t.h1]
  exact ⟨(t.dg k k1 hk).2, (t.dg k k1 hk).1⟩
theorem inv_toT {h : Ser} (h0 : h 0 = 0) (h1 : h 1 ≠ 0) (N : Nat) : invL (toT N h) = toT N (invS h) := by
  have e := toT_serS (invL (toT N h))
  rw [invL_len, toT_len] at e
  rw [← e]
  exact toT_eq fun k hk => (invS_at h0 h1 (by omega)).symm
theorem lt70 {M : Nat} (h : M < 2 ^ 70) (m0 : 0 < M) : SmL (M * M) ∧ SmL M := by
  have h2 := Nat.mul_lt_mul'' h h
  rw [← Nat.pow_add] at h2
  exact ⟨⟨Nat.mul_pos m0 m0, Nat.lt_of_lt_of_le h2 (Nat.pow_le_pow_right (by decide) (by decide))⟩, m0, Nat.lt_of_lt_of_le h (Nat.pow_le_pow_right (by decide) (by decide))⟩
theorem Tn.led {h : Ser} {N L B : Nat} {c : Ser} (t : Tn h N) (N1 : 1 ≤ N) (N11 : N ≤ 11) (c0 : c 0 = 0) (l0 : 0 < L) (l : L < 2 ^ 4000) (b : B ≤ 15000) (cd : ∀ k, k ≤ N → Dq L B (c k)) : LeOk c h N := by
  obtain ⟨M, Z, m0, m, z, g1, g2⟩ := t.ex
  refine ⟨c0, t.h0, t.h1, N1, N11, ⟨L, B, M, Z, ⟨Nat.mul_pos l0 m0, ?_⟩, by omega, cd, g1⟩, fun k k1 hk => (t.dg k k1 hk).1⟩
  have h2 := Nat.mul_lt_mul'' l m
  rw [← Nat.pow_add] at h2
  exact Nat.lt_of_lt_of_le h2 (Nat.pow_le_pow_right (by decide) (by decide))
theorem Tn.ledb {h : Ser} {N : Nat} (t : Tn h N) (N1 : 1 ≤ N) (N11 : N ≤ 11) : LeOk (invS h) h N := by
  obtain ⟨M, Z, m0, m, z, g1, g2⟩ := t.ex
  exact t.led N1 N11 rfl m0 (Nat.lt_of_lt_of_le m (Nat.pow_le_pow_right (by decide) (by decide))) (by omega) fun k hk => g2.one hk
theorem lt_two {L M a b : Nat} (h : L < 2 ^ a) (h' : M < 2 ^ b) : L * M < 2 ^ (a + b) := by
  rw [Nat.pow_add]
  exact Nat.mul_lt_mul'' h h'
end Kx
end
section
set_option maxHeartbeats 4000000
namespace Kx
open PySem PySem.Spec PyProof.Rows L2 RZ
theorem Gm.lift {D m n a q : Nat} {F : Ser} (h : Gm D m F n) (hq : q ≤ 2 ^ a) : Gm (D * q) (m + a) F n := ⟨h.z, fun k hk => by
  refine ((h.g k hk).up (M := (D * q) ^ k) (C := a * k) (q ^ k) (Nat.mul_pow _ _ _) ?_).mono (by rw [Nat.add_mul]; omega)
  rw [Nat.pow_mul]
  exact Nat.pow_le_pow_left hq k⟩
/-! ### renamers -/
theorem sc_sc {a b : Rat} (e : a * b = 1) (f : Ser) : scS a (scS b f) = f := by
  funext k
  show a * (b * f k) = f k
  rw [← Rat.mul_assoc, e, Rat.one_mul]
theorem NumQ.dq {q : Rat} (h : NumQ q) : Dq 60 10 q := dq_of h.1 (by have := h.2; show _ < 1024; omega)
theorem rn_gm {c b : Rat} {rs : List Rat} {n : Nat} (l : LdQ c b) (h : ∀ r ∈ rs, NumQ r) : Gm 120 20 (scS b (serS (c :: rs))) n := by
  refine ⟨by show b * 0 = 0; rw [Rat.mul_zero], fun k hk => ?_⟩
  match k with
  | 0 =>
    have e : scS b (serS (c :: rs)) (0 + 1) = 1 := by
      show b * c = 1
      rw [Rat.mul_comm]
      exact l.e
    rw [e]
    exact Dq.one (show 1 < 2 ^ 1 by decide)
  | k + 1 =>
    have z : Dq 60 10 (serS (c :: rs) (k + 1 + 1)) := by
      rw [serS_at]
      show Dq _ _ (rs.getD k 0)
      rw [List.getD_eq_getElem?_getD]
      cases x : rs[k]? with
      | none => exact Dq.zero
      | some q => exact (h q (List.mem_of_getElem? x)).dq
    refine ((l.b.mul z).up (M := 120 ^ (k + 1)) (C := 7 * k) (120 ^ k) (by rw [Nat.pow_succ, Nat.mul_comm]) ?_).mono (by omega)
    rw [Nat.pow_mul]
    exact Nat.pow_le_pow_left (by decide) k
theorem Gl.up {L M B C n : Nat} {f : Ser} (h : Gl L B f n) (d : L ∣ M) (m0 : 0 < M) (c : M < 2 ^ C) : Gl M (B + C) f n := fun j k j1 hk => (h j k j1 hk).dv d m0 c
theorem Gl.mono {L B C n : Nat} {f : Ser} (h : Gl L B f n) (l : B ≤ C) : Gl L C f n := fun j k j1 hk => (h j k j1 hk).mono l
theorem pw_small {L B : Nat} {a : Rat} (h : Dq L B a) (l0 : 0 < L) {k : Nat} (hk : B * k + 1 ≤ 4450) : (pwQ a k).num.natAbs < 2 ^ 4450 := Nat.lt_of_lt_of_le ((pw_dq h k).num (Nat.pow_pos l0)) (Nat.pow_le_pow_right (by decide) hk)
theorem rn_tn {c b : Rat} {rs : List Rat} {N : Nat} (l : LdQ c b) (h : ∀ r ∈ rs, NumQ r) (N1 : 1 ≤ N) (N7 : N ≤ 7) : Tn (serS (c :: rs)) N := by
  obtain ⟨ht, eht⟩ : ∃ ht, ht = scS b (serS (c :: rs)) := ⟨_, rfl⟩
  have g : Gm 120 20 ht N := by rw [eht]; exact rn_gm l h
  have g1 : ht 1 = 1 := by
    rw [eht]
    show b * c = 1
    rw [Rat.mul_comm]
    exact l.e
  have eh : serS (c :: rs) = scS c ht := by rw [eht, sc_sc l.e]
  have n1 : ht 1 ≠ 0 := by rw [g1]; decide
  have i1 : invS ht 1 = 1 := by
    have := inv_one g.z n1
    rw [g1, Rat.mul_one] at this
    exact this
  have gi := g.inv g1 (by omega)
  have ei : invS (scS c ht) = wtS b (invS ht) := inv_sc l.e g.z n1
  have c0 : c ≠ 0 := fun z => by have := l.e; rw [z, Rat.zero_mul] at this; exact absurd this (by decide)
  have p1 : 12 ^ N < 2 ^ 27 := Nat.lt_of_le_of_lt (Nat.pow_le_pow_right (by decide) N7) (by decide)
  have p2 : 120 ^ (N - 1) < 2 ^ 43 := Nat.lt_of_le_of_lt (Nat.pow_le_pow_right (by decide) (show N - 1 ≤ 6 by omega)) (by decide)
  have m0 : 0 < 12 ^ N * 120 ^ (N - 1) := Nat.mul_pos (Nat.pow_pos (by decide)) (Nat.pow_pos (by decide))
  have m70 : 12 ^ N * 120 ^ (N - 1) < 2 ^ 70 := lt_two p1 p2
  have d6 : 6 ^ N * 120 ^ (N - 1) ∣ 12 ^ N * 120 ^ (N - 1) := Nat.mul_dvd_mul ⟨2 ^ N, by rw [← Nat.mul_pow]⟩ (Nat.dvd_refl _)
  have d2 : 2 ^ N * 120 ^ (N - 1) ∣ 12 ^ N * 120 ^ (N - 1) := Nat.mul_dvd_mul ⟨6 ^ N, by rw [← Nat.mul_pow]⟩ (Nat.dvd_refl _)
  rw [eh]
  refine ⟨by show c * ht 0 = 0; rw [g.z, Rat.mul_zero], rat_ne c0 n1, ⟨_, 4000, m0, m70, by decide, ((Gl.sc g (by decide) (by decide) N1 N7 l.a).up d6 m0 m70).mono (by omega), ?_⟩, fun k k1 hk => ⟨?_, ?_⟩⟩
  · rw [ei]
    exact ((Gl.wt gi (by decide) (by decide) N1 N7 l.b).up d2 m0 m70).mono (by omega)
  · rw [pow_sc, pow_d1 g.z g1, Rat.mul_one]
    exact pw_small l.a (by decide) (by omega)
  · rw [ei, pow_wt, pow_d1 gi.z i1, Rat.one_mul]
    exact pw_small l.b (by decide) (by omega)
end Kx
end
section
set_option maxHeartbeats 4000000
namespace Kx
open PySem PySem.Spec PyProof.Rows L2
section
variable {K : PySem.W.Frag} {H H' : Hp} {v : V} {q : Rat}
end
section
variable {P : Program} {w : World} {K : PySem.W.Frag} {mg : Str → Option Value} {base : Heap} {f fL : Addr} {fd fdL : FuncData}
theorem scAdd : FnScope nPQ ["_law_p", "_law_q"] (defScope L_add) := ⟨rfl, rfl, rfl, by decide +kernel, rfl, by decide +kernel, by decide +kernel⟩
theorem scDiv : FnScope nPQ ["_law_p", "_law_q"] (defScope L_div) := ⟨rfl, rfl, rfl, by decide +kernel, rfl, by decide +kernel, by decide +kernel⟩
theorem ok_addQ (F : Fun K "_law_add" "_law_add" L_add f fd) (G : FnOk P w K mg base CX0 1 fL fdL ["_law_num_here", "_law_den"] spLowQ) (bL : Binds K fdL ["_law_num_here", "_law_den"] []) (kL : PySem.W.keepIn K (.ref fL) = true) (mL : mg "_law_low" = some (.ref fL)) :
    FnOk P w K mg base CX0 2 f fd ["_law_p", "_law_q"] (spTwoQ K (· + ·)) := by
  refine F.ok scAdd (fun vs H Q E h => ?_) (fun cdv A outer s H vs Q E hr h => ?_)
  · obtain ⟨x, y, a, b, rfl, _⟩ := h
    rfl
  obtain ⟨x, y, a, b, rfl, hx, hy, ba, bb, q⟩ := h
  obtain ⟨xa, rfl, sx, _⟩ := hx.sq
  obtain ⟨ya, rfl, sy, _⟩ := hy.sq
  refine ⟨_, pss_one (ps_ret (pe_call G hr rfl mL kL bL .nil pass0 (pa_cons (pe_op op_add (pe_op op_mulW (pe_ix ix_tup (pv 0) pe_int (fun _ _ => rfl)) (pe_ix ix_tup (pv 1) pe_int (fun _ _ => rfl))) (pe_op op_mulW (pe_ix ix_tup (pv 1) pe_int (fun _ _ => rfl)) (pe_ix ix_tup (pv 0) pe_int (fun _ _ => rfl))))
      (pa_cons (pe_op op_mulW (pe_ix ix_tup (pv 0) pe_int (fun _ _ => rfl)) (pe_ix ix_tup (pv 1) pe_int (fun _ _ => rfl))) pa_nil)))), ?_⟩
  exact ⟨_, rfl, xa, _, 0, _, rfl, rfl, sx, rfl, _, rfl, ya, _, 1, _, rfl, rfl, sy, rfl, a.num, (b.den : Nat), rfl, rfl, wide_mul ba.1 bb.dn (by decide) (by decide) (by decide), _, rfl, ya, _, 0, _, rfl, rfl, sy, rfl, _, rfl, xa, _, 1, _, rfl, rfl, sx, rfl, b.num, (a.den : Nat), rfl, rfl, wide_mul bb.1 ba.dn (by decide) (by decide) (by decide), _, _, rfl, rfl,
      _, rfl, xa, _, 1, _, rfl, rfl, sx, rfl, _, rfl, ya, _, 1, _, rfl, rfl, sy, rfl, (a.den : Nat), (b.den : Nat), rfl, rfl, wide_mul ba.dn bb.dn (by decide) (by decide) (by decide), _, _, rfl, Int.mul_ne_zero (den_ne a) (den_ne b), log_two ba.dn bb.dn, by rw [← rat_add]; exact q⟩
theorem ok_divQ (F : Fun K "_law_div" "_law_div" L_div f fd) (G : FnOk P w K mg base CX0 1 fL fdL ["_law_num_here", "_law_den"] spLowQ) (bL : Binds K fdL ["_law_num_here", "_law_den"] []) (kL : PySem.W.keepIn K (.ref fL) = true) (mL : mg "_law_low" = some (.ref fL)) :
    FnOk P w K mg base CX0 2 f fd ["_law_p", "_law_q"] (spDivQ K) := by
  refine F.ok scDiv (fun vs H Q E h => ?_) (fun cdv A outer s H vs Q E hr h => ?_)
  · obtain ⟨x, y, a, b, rfl, _⟩ := h
    rfl
  obtain ⟨x, y, a, b, rfl, hx, hy, ba, bb, b0, bn, q⟩ := h
  obtain ⟨xa, rfl, sx, _⟩ := hx.sq
  obtain ⟨ya, rfl, sy, _⟩ := hy.sq
  refine ⟨_, pss_one (ps_ret (pe_call G hr rfl mL kL bL .nil pass0 (pa_cons (pe_op op_mulW (pe_ix ix_tup (pv 0) pe_int (fun _ _ => rfl)) (pe_ix ix_tup (pv 1) pe_int (fun _ _ => rfl)))
      (pa_cons (pe_op op_mulW (pe_ix ix_tup (pv 0) pe_int (fun _ _ => rfl)) (pe_ix ix_tup (pv 1) pe_int (fun _ _ => rfl))) pa_nil)))), ?_⟩
  exact ⟨_, rfl, xa, _, 0, _, rfl, rfl, sx, rfl, _, rfl, ya, _, 1, _, rfl, rfl, sy, rfl, a.num, (b.den : Nat), rfl, rfl, wide_mul ba.1 bb.dn (by decide) (by decide) (by decide),
      _, rfl, xa, _, 1, _, rfl, rfl, sx, rfl, _, rfl, ya, _, 0, _, rfl, rfl, sy, rfl, (a.den : Nat), b.num, rfl, rfl, wide_mul ba.dn bn (by decide) (by decide) (by decide), _, _, rfl, Int.mul_ne_zero (den_ne a) (num_ne b0), log_two ba.dn bn, by rw [← div_bq b0]; exact q⟩
end
end Kx
end
section
set_option maxHeartbeats 4000000
namespace Kx
open PySem PySem.Spec PyProof.Rows L2 RZ
theorem x_map (c : Rat) {n : Nat} : (xL n).map (· * c) = 0 :: c :: List.replicate (n - 1) 0 := by
  show (0 * c) :: (1 * c) :: (List.replicate (n - 1) (0 : Rat)).map (· * c) = _
  rw [List.map_replicate, Rat.zero_mul, Rat.one_mul]
def spScg (K : PySem.W.Frag) : Sp := fun vs H Q _ => ∃ (x : V) (c : Rat) (n : Nat), vs = [x, .int (n : Nat)] ∧ Nq K H x c ∧ Ok c ∧ 1 ≤ n ∧ n ≤ 24 ∧ GivesL K H Q (0 :: c :: List.replicate (n - 1) 0)
section
variable {P : Program} {w : World} {K : PySem.W.Frag} {mg : Str → Option Value} {base : Heap} {f o0 : Addr} {fd : FuncData}
theorem scScg : FnScope ["_law_cc", "_law_deg"] ["_law_cc", "_law_deg"] (defScope L_scaling) := ⟨rfl, rfl, rfl, by decide +kernel, rfl, by decide +kernel, by decide +kernel⟩
theorem ok_lscaling (F : Fun K "_law_scaling" "_law_scaling" L_scaling f fd) (UX : Use P w K mg base CX0 1 "_law_x" ["_law_deg"] (spX K) []) (US : Use P w K mg base CX0 3 "_law_scaled" ["_law_u", "_law_p"] (spMulsL K) []) : FnOk P w K mg base CX0 4 f fd ["_law_cc", "_law_deg"] (spScg K) := by
  refine F.ok scScg (fun vs H Q E h => ?_) (fun cdv A outer s H vs Q E hr h => ?_)
  · obtain ⟨x, c, n, rfl, _⟩ := h
    rfl
  obtain ⟨x, c, n, rfl, nx, oc, n1, n24, q⟩ := h
  refine ⟨_, pss_one (ps_ret (pe_use US hr rfl pass0 (pa_cons (pe_use UX (hr.mono (by decide)) rfl pass0 (pa_cons (pv 1) pa_nil)) (pa_cons (pv 0) pa_nil)))), ?_⟩
  refine ⟨_, rfl, n, rfl, n1, by omega, fun b H1 xs s1 nb hb mb => ?_⟩
  refine ⟨_, rfl, .ref b, x, xL n, c, rfl, ⟨b, xs, rfl, hb, mb⟩, nx.same s1, ?_, x_ok n, oc, fun b2 H2 ys s2 nb2 hb2 mb2 => ?_⟩
  · show (0 :: 1 :: List.replicate (n - 1) (0 : Rat)).length ≤ 100
    rw [List.length_cons, List.length_cons, List.length_replicate]
    omega
  · rw [x_map] at mb2
    exact q b2 H2 ys (s1.trans s2) (s1.free nb2) hb2 mb2
end
end Kx
end
section
set_option maxHeartbeats 4000000
namespace Kx
open PySem PySem.Spec PyProof.Rows L2 RZ
/-! ### flipped, steps of odd places alone -/
def spFlp (K : PySem.W.Frag) : Sp := fun vs H Q _ => ∃ (x : V) (qs : List Rat), vs = [x] ∧ Ls K H x qs ∧ qs.length ≤ 100 ∧ AllO qs ∧ GivesL K H Q (qs.map (· * (-1)))
def spOdd (K : PySem.W.Frag) : Sp := fun vs H Q _ => ∃ (n : Nat) (B p : Addr) (deg : Nat), vs = [.ref B, .int (deg : Nat)] ∧ Bag (n + 20) H B p ∧ 2 ≤ deg ∧ deg ≤ 7 ∧ ∀ H' v rs, Bag n H' B p → But B H H' → Ls K H' v (0 :: 1 :: rs) → rs.length + 1 = deg → (∀ r ∈ rs, NumQ r) → (∀ k r, rs[2 * k]? = some r → r = 0) → Q v H'
abbrev nOdd : List Str := ["_law_bag_here", "_law_deg", "_law_found", "_law_j"]
theorem ok_m1 : Ok (-1) := ⟨Nat.lt_of_lt_of_le (show (-1 : Rat).num.natAbs < 2 ^ 1 by decide) (Nat.pow_le_pow_right (by decide) (by decide)), Nat.lt_of_lt_of_le (show (-1 : Rat).den < 2 ^ 1 by decide) (Nat.pow_le_pow_right (by decide) (by decide))⟩
theorem nq_0 : NumQ 0 := ⟨by decide, by decide⟩
theorem rg_odd {deg : Nat} (h2 : 2 ≤ deg) (h7 : deg ≤ 7) : RgC 3 ((deg : Int) + 1) 2 ((deg - 1) / 2) := by
  have : deg = 2 ∨ deg = 3 ∨ deg = 4 ∨ deg = 5 ∨ deg = 6 ∨ deg = 7 := by omega
  rcases this with rfl | rfl | rfl | rfl | rfl | rfl <;> exact ⟨by decide, by decide, by decide, by decide⟩
section
variable {P : Program} {w : World} {K : PySem.W.Frag} {mg : Str → Option Value} {base : Heap} {f o0 : Addr} {fd : FuncData}
theorem scFlp : FnScope ["_law_f"] ["_law_f"] (defScope L_flipped) := ⟨rfl, rfl, rfl, by decide +kernel, rfl, by decide +kernel, by decide +kernel⟩
theorem ok_flipped (F : Fun K "_law_flipped" "_law_flipped" L_flipped f fd) (US : Use P w K mg base CX0 3 "_law_scaled" ["_law_u", "_law_p"] (spMulsL K) []) : FnOk P w K mg base CX0 4 f fd ["_law_f"] (spFlp K) := by
  refine F.ok scFlp (fun vs H Q E h => ?_) (fun cdv A outer s H vs Q E hr h => ?_)
  · obtain ⟨x, qs, rfl, _⟩ := h
    rfl
  obtain ⟨x, qs, rfl, lx, l1, o, q⟩ := h
  refine ⟨_, pss_one (ps_ret (pe_use US hr rfl pass0 (pa_cons (pv 0) (pa_cons (pe_tup (pa_cons (pe_un un_neg pe_int) (pa_cons pe_int pa_nil))) pa_nil)))), ?_⟩
  refine ⟨_, rfl, _, rfl, (by show 2 ≤ sizeLine; decide), fun t nt => ?_⟩
  have s1 := new_same nt (HO.tup [.int (-1), .int 1])
  exact ⟨x, .ref t, qs, -1, rfl, lx.same s1, .at (K := K) upd_same, l1, o, ok_m1, fun b H2 zs s2 nb hb mb => q b H2 zs (s1.trans s2) (s1.free nb) hb mb⟩
theorem scOdd : FnScope nOdd ["_law_bag_here", "_law_deg"] (defScope L_odd_step) := ⟨rfl, rfl, rfl, by decide +kernel, rfl, by decide +kernel, by decide +kernel⟩
/-- what stands of the list -/
structure Jd (K : PySem.W.Frag) (m : Nat) (B p e : Addr) (deg : Nat) (H G : Hp) (ys : List V) (rs : List Rat) : Prop where
  b : Bag m G B p
  u : But B H G
  n : H e = none
  eB : e ≠ B
  ep : e ≠ p
  h : G e = some (.lst ys)
  l : Nl K G ys (0 :: 1 :: rs)
  d : rs.length + 1 = deg
  q : ∀ r ∈ rs, NumQ r
  z : ∀ k r, rs[2 * k]? = some r → r = 0
theorem Jd.go {m m' : Nat} {B p e : Addr} {deg : Nat} {H G G' : Hp} {ys : List V} {rs : List Rat} (j : Jd K m B p e deg H G ys rs) (b : Bag m' G' B p) (u : But B G G') : Jd K m' B p e deg H G' ys rs := ⟨b, j.u.trans u, j.n, j.eB, j.ep, u _ _ j.eB j.h, j.l.go j.b (Go.of u), j.d, j.q, j.z⟩
/-- a number put at an odd place -/
theorem Jd.put {m : Nat} {B p e : Addr} {deg : Nat} {H G : Hp} {ys : List V} {rs : List Rat} {y : V} {r : Rat} {i : Nat} (j : Jd K m B p e deg H G ys rs) (ny : Nq K G y r) (nr : NumQ r) (hi : 2 * i + 2 < deg + 1 - 0 ∧ 2 * i + 1 < rs.length) : Jd K m B p e deg H (upd G e (.lst (ys.set (2 * i + 3) y))) (ys.set (2 * i + 3) y) (rs.set (2 * i + 1) r) := by
  have bu : But e G (upd G e (.lst (ys.set (2 * i + 3) y))) := fun b o n h => by rw [upd_ne n]; exact h
  have es : (0 :: 1 :: rs).set (2 * i + 3) r = 0 :: 1 :: rs.set (2 * i + 1) r := rfl
  have lys : ys.length = rs.length + 2 := by rw [j.l.1, List.length_cons, List.length_cons]
  refine ⟨j.b.upd j.eB j.ep, fun b o hb ho => ?_, j.n, j.eB, j.ep, upd_same, ?_, by rw [List.length_set]; exact j.d, fun z hz => ?_, fun k z hz => ?_⟩
  · rw [upd_ne (fun z => by rw [z, j.n] at ho; cases ho)]
    exact j.u _ _ hb ho
  · rw [← es]
    refine ⟨by rw [List.length_set, List.length_set, j.l.1], fun a x z h1 h2 => ?_⟩
    rw [List.getElem?_set] at h1 h2
    by_cases c' : 2 * i + 3 = a
    · subst c'
      rw [if_pos rfl, if_pos (by omega)] at h1
      rw [if_pos rfl, if_pos (by rw [List.length_cons, List.length_cons]; omega)] at h2
      rw [← Option.some.inj h1, ← Option.some.inj h2]
      exact ny.butL j.h bu
    · rw [if_neg c'] at h1 h2
      exact (j.l.2 a x z h1 h2).butL j.h bu
  · rcases List.mem_or_eq_of_mem_set hz with hz | rfl
    · exact j.q z hz
    · exact nr
  · rw [List.getElem?_set, if_neg (by omega)] at hz
    exact j.z k z hz
theorem ok_odd (F : Fun K "_law_odd_step" "_law_odd_step" L_odd_step f fd) (mr : mg "range" = none) (UX : Use P w K mg base CX0 1 "_law_x" ["_law_deg"] (spX K) []) (UN : Use P w K mg base CX0 2 "_law_num" ["_law_bag_here"] (spNum K 3 NumQ) []) (UZ : Use P w K mg base CX0 3 "_law_not0" ["_law_bag_here"] (spNum K 4 NumQ) []) (UD : Use P w K mg base CX0 1 "_law_draw" ["_law_bag_here", "_law_many_y"] spDraw []) : FnOk P w K mg base CX0 4 f fd ["_law_bag_here", "_law_deg"] (spOdd K) := by
  refine F.ok scOdd (fun vs H Q E h => ?_) (fun cdv A outer s H vs Q E hr h => ?_)
  · obtain ⟨n, B, p, deg, rfl, _⟩ := h
    rfl
  obtain ⟨n, B, p, deg, rfl, hb, d2, d7, q⟩ := h
  have hr1 := hr.mono (show 1 ≤ 3 by decide)
  have hr2 := hr.mono (show 2 ≤ 3 by decide)
  refine ⟨_, pss_cons (ps_set (i := 2) scOdd.nd rfl (Or.inl rfl) (pe_use UX hr1 rfl pass0 (pa_cons (pv 1) pa_nil)))
    (pss_cons (ps_for PassesOwn.never rfl (pi_range3 rfl mr (pa_cons pe_int (pa_cons (pe_op op_add (pv 1) pe_int) (pa_cons pe_int pa_nil)))) (pg_name (i := 3) scOdd.nd rfl (Or.inl rfl))
      (pss_one (ps_asg (pe_use UN hr2 rfl pass0 (pa_cons (pv 0) pa_nil)) (pg_sub (pv 2) (pv 3) set_list))))
    (C8.pss_cut (ps_if (PW.pt (pw_and (pt_cmpR op_gt (pv 1) pe_int (nomark _)) (pw_and1 (pt_cmpR op_gt (pe_use UD hr1 rfl pass0 (pa_cons (pv 0) (pa_cons pe_int pa_nil))) pe_int (nomark _))))) (pss_one (ps_asg (pe_use UZ hr rfl pass0 (pa_cons (pv 0) pa_nil)) (pg_sub (pv 2) pe_int set_list))) pss_nil)
    (pss_one (ps_ret (pv 2))))), ?_⟩
  refine ⟨_, rfl, deg, rfl, by omega, by omega, fun e H1 ys s1 ne he me => ?_⟩
  have j0 : Jd K (n + 20) B p e deg H H1 ys (List.replicate (deg - 1) 0) := ⟨hb.same s1, But.same s1, ne, (hb.at ne).1, (hb.at ne).2, he, me, by rw [List.length_replicate]; omega, fun r hr => by rw [List.eq_of_mem_replicate hr]; exact nq_0, fun k r h => List.eq_of_mem_replicate (List.mem_of_getElem? h)⟩
  refine ⟨_, rfl, _, 1, rfl, rfl, 3, (deg : Int) + 1, 2, (deg - 1) / 2, rfl, rg_odd d2 d7, for_rangeC (lo := 3) (c := 2) (n := (deg - 1) / 2) (fun i σ G => ∃ v3 ys rs, σ = [some (.ref B), some (.int (deg : Nat)), some (.ref e), v3] ∧ Jd K (n + 20 - 3 * i) B p e deg H G ys rs) ⟨none, ys, _, rfl, j0⟩ ?_ ?_⟩
  · rintro i σ G hi ⟨v3, ys, rs, rfl, j⟩
    refine ⟨_, rfl, n + 20 - 3 * (i + 1), B, p, rfl, j.b.less (by omega), fun G2 y r b2 u2 ny nr => ?_⟩
    have j2 := j.go b2 u2
    have lys : ys.length = rs.length + 2 := by rw [j2.l.1, List.length_cons, List.length_cons]
    have jd := j2.d
    refine ⟨_, rfl, _, rfl, e, ys, _, 2 * i + 3, rfl, rfl, j2.h, ?_, _, _, _, rfl, j2.put (i := i) ny nr ⟨by omega, by omega⟩⟩
    have hj : (3 : Int) + (i : Int) * 2 = ((2 * i + 3 : Nat) : Int) := by omega
    show ixN ys.length ((3 : Int) + (i : Int) * 2) = _
    rw [hj]
    unfold ixN
    rw [if_pos (by omega), if_pos (by omega)]
    congr 1
  · rintro σ G ⟨v3, ys, rs, rfl, j⟩
    refine ⟨fun σ G => ∃ ys rs, σ = [some (.ref B), some (.int (deg : Nat)), some (.ref e), v3] ∧ Jd K n B p e deg H G ys rs, ?_, ?_⟩
    · refine ⟨_, rfl, (deg : Int), 2, rfl, rfl, _, rfl, ite2 (fun c => ?_) (fun _ => ?_)⟩
      · have d3 : 2 < deg := by have := of_decide_eq_true c; omega
        refine ⟨_, rfl, n + 5, B, p, 3, rfl, by decide, by decide, j.b.less (by omega), fun G1 k b1 u1 k0 k1 => ?_⟩
        have j1 := j.go b1 u1
        refine ⟨k, 0, rfl, rfl, _, rfl, ite2 (fun _ => ?_) (fun _ => ?_)⟩
        · refine ⟨_, rfl, n, B, p, rfl, b1.less (by omega), fun G2 y r b2 u2 ny nr => ?_⟩
          have j2 := j1.go b2 u2
          have lys : ys.length = rs.length + 2 := by rw [j2.l.1, List.length_cons, List.length_cons]
          have jd := j2.d
          refine ⟨_, rfl, e, ys, _, 3, rfl, rfl, j2.h, ?_, _, _, rfl, j2.put (i := 0) ny nr ⟨by omega, by omega⟩⟩
          show ixN ys.length 3 = _
          unfold ixN
          rw [if_pos (by decide), if_pos (by omega)]
          congr 1
        · exact ⟨ys, rs, rfl, ⟨j1.b.less (by omega), j1.u, j1.n, j1.eB, j1.ep, j1.h, j1.l, j1.d, j1.q, j1.z⟩⟩
      · exact ⟨ys, rs, rfl, ⟨j.b.less (by omega), j.u, j.n, j.eB, j.ep, j.h, j.l, j.d, j.q, j.z⟩⟩
    rintro σ G2 ⟨ys2, rs2, rfl, j2⟩
    exact ⟨_, rfl, q G2 _ rs2 j2.b j2.u ⟨e, ys2, rfl, j2.h, j2.l⟩ j2.d j2.q j2.z⟩
end
end Kx
end
section
set_option maxHeartbeats 4000000
namespace Kx
open PySem PySem.Spec PyProof.Rows L2 RZ
/-! ### what is due -/
/-- what putting one behind another takes in the law -/
def PuOk (us fs : List Rat) : Prop := ∃ L B M C : Nat, SmL L ∧ B ≤ 20000 ∧ SmL M ∧ C ≤ 20000 ∧ L * M ^ (us.length + 1) < 2 ^ 9000 ∧ AllD L B us ∧ AllD M C fs
structure DuOk (f p s h : List Rat) : Prop where
  m1 : PuOk p s
  m2 : PuOk s p
  m3 : PuOk h p
  o : AllO h
  c : Ok (serS p 1)
def spDue (K : PySem.W.Frag) : Sp := fun vs H Q _ => ∃ (a : Addr) (v1 v2 v3 v4 : V) (f p s h : List Rat), vs = [.ref a] ∧ H a = some (.lst [v1, v2, v3, v4]) ∧ Ls K H v1 (0 :: f) ∧ Ls K H v2 (0 :: p) ∧ Ls K H v3 (0 :: s) ∧ Ls K H v4 (0 :: h) ∧ 2 ≤ f.length ∧ 2 ≤ p.length ∧ 2 ≤ s.length ∧ 2 ≤ h.length ∧ f.length ≤ 24 ∧ p.length ≤ 24 ∧ s.length ≤ 24 ∧ h.length ≤ 24 ∧
  (f.length = p.length → p.length = s.length → s.length = h.length → serS s 1 = 1 → serS h 1 ≠ 0 → DuOk f p s h) ∧ GivesP H Q (wrgD f p s h)
abbrev nDue : List Str := ["_law_four", "_law_f", "_law_s", "_law_u", "_law_h", "_law_g", "_law_sides", "_law_k", "_law_one_y", "_law_two"]
theorem Ls.dp {K : PySem.W.Frag} {H : Hp} {v : V} {qs : List Rat} (h : Ls K H v qs) : Dp K H v (datL qs) := by
  obtain ⟨a, xs, rfl, ha, nx⟩ := h
  exact nx.dp ha
theorem difN_sh : ∀ (xs ys : List Rat) (f : Nat), difN xs ys (f + 1) = (difN xs ys f).map (· + 1)
  | [], _, _ => rfl
  | _ :: _, [], _ => rfl
  | q :: qs, r :: rs, f => by
    show (if q = r then difN qs rs (f + 1 + 1) else some (f + 1)) = Option.map _ (if q = r then difN qs rs (f + 1) else some f)
    by_cases c : q = r
    · rw [if_pos c, if_pos c, difN_sh qs rs (f + 1)]
    · rw [if_neg c, if_neg c]
      rfl
theorem difN_no : ∀ (xs ys : List Rat) (f : Nat), xs.length = ys.length → difN xs ys f = none → xs = ys
  | [], [], _, _, _ => rfl
  | [], _ :: _, _, h, _ => by cases h
  | _ :: _, [], _, h, _ => by cases h
  | q :: qs, r :: rs, f, h, e => by
    have e : (if q = r then difN qs rs (f + 1) else some f) = none := e
    by_cases c : q = r
    · rw [if_pos c] at e
      rw [c, difN_no qs rs (f + 1) (by simpa using h) e]
    · rw [if_neg c] at e
      cases e
theorem fr_unq {xs ys : List Rat} (c : Int) (l : xs.length = ys.length) (n : xs ≠ ys) : ∃ k : Int, frV (0 :: xs) (0 :: ys) = .int k ∧ unqD c xs ys = some (c, k) := by
  unfold unqD
  cases e : difN xs ys 0 with
  | none => exact absurd (difN_no xs ys 0 l e) n
  | some k =>
    refine ⟨(k : Int) + 1, ?_, rfl⟩
    unfold frV
    have e2 : difN (0 :: xs) (0 :: ys) 0 = some (k + 1) := by
      show (if (0 : Rat) = 0 then difN xs ys (0 + 1) else some 0) = _
      rw [if_pos rfl, difN_sh, e]
      rfl
    rw [e2]
    rfl
theorem scL_cmp {n : Nat} (n1 : 1 ≤ n) (c : Rat) {hs : List Rat} (l : hs.length = n) : cmpL (scL n c) hs = hs.map (· * c) := by
  have e0 : serS hs 0 = 0 := rfl
  have e1 := toT_serS hs
  rw [l] at e1
  have e2 : scL n c = toT n (scS c xS) := by
    obtain ⟨m, rfl⟩ : ∃ m, n = m + 1 := ⟨n - 1, by omega⟩
    have e := toT_serS (scL (m + 1) c)
    have ll : (scL (m + 1) c).length = m + 1 := by
      unfold scL
      rw [List.length_cons, List.length_replicate]
      omega
    rw [ll] at e
    rw [← e]
    refine toT_eq fun k hk => ?_
    match k with
    | 0 => show (0 : Rat) = c * xS 0; rw [show xS 0 = 0 from rfl, Rat.mul_zero]
    | 1 => show c = c * xS 1; rw [show xS 1 = 1 from rfl, Rat.mul_one]
    | k + 2 =>
      show (List.replicate (m + 1 - 1) (0 : Rat)).getD k 0 = c * xS (k + 2)
      rw [show xS (k + 2) = 0 from if_neg (by omega), Rat.mul_zero, List.getD_eq_getElem?_getD, List.getElem?_replicate]
      split <;> rfl
  have e3 : cmpS (scS c xS) (serS hs) = scS c (serS hs) := by rw [cmp_sc, xl0 e0]
  have e4 : cmpL (scL n c) hs = toT n (cmpS (scS c xS) (serS hs)) := by
    rw [e2]
    exact cmpL_eq (toT_len _ _) (serS_toT (show c * xS 0 = 0 by rw [show xS 0 = 0 from rfl, Rat.mul_zero])) fun _ _ => rfl
  rw [e4, e3]
  refine Eq.trans ?_ (congrArg (fun z => z.map (· * c)) e1)
  unfold toT
  rw [List.map_map]
  exact List.map_congr_left fun i _ => Rat.mul_comm _ _
theorem le_at {X : Cx} (K : PySem.W.Frag) (h : X.K = K) : CallR X (.builtin "len") (fun xs H Q => ∃ (p : Addr) (ys : List V), xs = [V.ref p] ∧ (SqL K H p ys ∨ SqT K H p ys) ∧ Q (V.int (ys.length : Nat)) H) := by
  subst h
  exact call_len_seq
section
variable {P : Program} {w : World} {K : PySem.W.Frag} {mg : Str → Option Value} {base : Heap} {f o0 : Addr} {fd : FuncData}
theorem scDue : FnScope nDue ["_law_four"] (defScope L_due) := ⟨rfl, rfl, rfl, by decide +kernel, rfl, by decide +kernel, by decide +kernel⟩
theorem ok_due (F : Fun K "_law_due" "_law_due" L_due f fd) (mn : mg "len" = none) (ma : mg "all" = none) (UP : Use P w K mg base CX0 2 "_law_put" ["_law_u", "_law_f"] (spPutL K) []) (US : Use P w K mg base CX0 3 "_law_scaled" ["_law_u", "_law_p"] (spMulsL K) []) (UF : Use P w K mg base CX0 1 "_law_first" ["_law_u", "_law_w"] (spFirst K) []) : FnOk P w K mg base CX0 4 f fd ["_law_four"] (spDue K) := by
  refine F.ok scDue (fun vs H Q E h => ?_) (fun cdv A outer s H vs Q E hr h => ?_)
  · obtain ⟨a, v1, v2, v3, v4, f, p, s, h, rfl, _⟩ := h
    rfl
  obtain ⟨a, v1, v2, v3, v4, ff, pp, uu, hh, rfl, ha, l1, l2, l3, l4, r⟩ := h
  have hr1 := hr.mono (show 1 ≤ 3 by decide)
  have hr2 := hr.mono (show 2 ≤ 3 by decide)
  refine ⟨_, (C8.pss_cut (ps_asg (pe_tup (pa_cons (pe_ix ix_list (pv 0) pe_int (fun _ _ => rfl)) (pa_cons (pe_ix ix_list (pv 0) pe_int (fun _ _ => rfl)) (pa_cons (pe_ix ix_list (pv 0) pe_int (fun _ _ => rfl)) (pa_cons (pe_ix ix_list (pv 0) pe_int (fun _ _ => rfl)) pa_nil))))) (pg_tup rfl (pgs_cons (pg_name (i := 1) scDue.nd rfl (Or.inr rfl)) (pgs_cons (pg_name (i := 2) scDue.nd rfl (Or.inl rfl)) (pgs_cons (pg_name (i := 3) scDue.nd rfl (Or.inl rfl)) (pgs_cons (pg_name (i := 4) scDue.nd rfl (Or.inl rfl)) pgs_nil))))))
    (C8.pss_cut (ps_if (pt_not (pt_val (pe_callB (cr_all rfl) rfl ma (by decide +kernel) (pa_cons (pe_lc (own := [("_law_g", 5)]) (g := gName 5) (tt := tYes) rfl scDue.nd (pi_list (pv 0)) (blkOk_by (N := nDue) (sc := defScope L_due) (by decide +kernel)) (fun _ _ _ _ _ => pg_name (i := 5) scDue.nd rfl (Or.inl rfl)) (fun _ _ _ _ _ => pts_nil) (fun _ _ _ _ _ => pe_cmpR op_eq (pe_callB (le_at K rfl) rfl mn PySem.boot_len (pa_cons (pv 5) pa_nil)) (pe_callB (le_at K rfl) rfl mn PySem.boot_len (pa_cons (pv 1) pa_nil)) (nomark _))) pa_nil)))) (pss_one (ps_ret (pe_tup (pa_cons pe_int (pa_cons pe_int pa_nil))))) pss_nil)
    (C8.pss_cut (ps_if (pt_cmpR (op_neD hr.units) (pe_ix ix_list (pv 3) pe_int (fun _ _ => rfl)) (pe_tup (pa_cons pe_int (pa_cons pe_int pa_nil))) (nomark _)) (pss_one (ps_ret (pe_tup (pa_cons pe_int (pa_cons pe_int pa_nil))))) pss_nil)
    (C8.pss_cut (ps_if (pt_cmpR (op_eqD hr.units) (pe_ix ix_list (pv 4) pe_int (fun _ _ => rfl)) (pe_tup (pa_cons pe_int (pa_cons pe_int pa_nil))) (nomark _)) (pss_one (ps_ret (pe_tup (pa_cons pe_int (pa_cons pe_int pa_nil))))) pss_nil)
    (C8.pss_cut (ps_set (i := 6) scDue.nd rfl (Or.inl rfl) (pe_lst (pa_cons (pe_tup (pa_cons pe_int (pa_cons (pe_use UP hr2 rfl pass0 (pa_cons (pv 2) (pa_cons (pv 3) pa_nil))) (pa_cons (pv 1) pa_nil)))) (pa_cons (pe_tup (pa_cons pe_int (pa_cons (pe_use UP hr2 rfl pass0 (pa_cons (pv 3) (pa_cons (pv 2) pa_nil))) (pa_cons (pv 1) pa_nil)))) (pa_cons (pe_tup (pa_cons pe_int (pa_cons (pe_use UP hr2 rfl pass0 (pa_cons (pv 4) (pa_cons (pv 2) pa_nil))) (pa_cons (pe_use US hr rfl pass0 (pa_cons (pv 4) (pa_cons (pe_ix ix_list (pv 2) pe_int (fun _ _ => rfl)) pa_nil))) pa_nil)))) pa_nil)))))
    (pss_cons (ps_for PassesOwn.never rfl (pi_list (pv 6)) (pg_tup rfl (pgs_cons (pg_name (i := 7) scDue.nd rfl (Or.inl rfl)) (pgs_cons (pg_name (i := 8) scDue.nd rfl (Or.inl rfl)) (pgs_cons (pg_name (i := 9) scDue.nd rfl (Or.inl rfl)) pgs_nil))))
      (pss_one (ps_if (pt_cmpR (op_neD hr.units) (pv 8) (pv 9) (nomark _)) (pss_one (ps_ret (pe_tup (pa_cons (pv 7) (pa_cons (pe_use UF hr1 rfl pass0 (pa_cons (pv 8) (pa_cons (pv 9) pa_nil))) pa_nil))))) pss_nil)))
    (pss_one (ps_ret pe_non)))))))), ?_⟩
  obtain ⟨n1, n2, n3, n4, t1, t2, t3, t4, dk, q⟩ := r
  unfold wrgD at q
  obtain ⟨a1, y1, rfl, h1, m1⟩ := id l1
  obtain ⟨a2, y2, rfl, h2, m2⟩ := id l2
  obtain ⟨a3, y3, rfl, h3, m3⟩ := id l3
  obtain ⟨a4, y4, rfl, h4, m4⟩ := id l4
  have k1 : y1.length = ff.length + 1 := m1.1
  have k2 : y2.length = pp.length + 1 := m2.1
  have k3 : y3.length = uu.length + 1 := m3.1
  have k4 : y4.length = hh.length + 1 := m4.1
  refine ⟨fun σ G => Same H G ∧ σ = [some (.ref a), some (.ref a1), some (.ref a2), some (.ref a3), some (.ref a4), none, none, none, none, none], ?_, ?_⟩
  · refine ⟨_, rfl, a, _, 0, _, rfl, rfl, SqL.of ha, rfl, _, rfl, a, _, 1, _, rfl, rfl, SqL.of ha, rfl, _, rfl, a, _, 2, _, rfl, rfl, SqL.of ha, rfl, _, rfl, a, _, 3, _, rfl, rfl, SqL.of ha, rfl, (by show 4 ≤ sizeLine; decide), fun t nt => ?_⟩
    exact ⟨t, [_, _, _, _], rfl, SqT.of upd_same, rfl, _, [_, _, _], rfl, _, [_, _], rfl, _, [_], rfl, _, [], rfl, rfl, new_same nt _, rfl⟩
  rintro σ G ⟨s, rfl⟩
  have il : ∀ {m n : Nat}, decide (V.int ((m + 1 : Nat) : Int) = V.int ((n + 1 : Nat) : Int)) = decide (m = n) := fun {m n} => decide_eq_decide.mpr ⟨fun z => by have := V.int.inj z; omega, fun z => by rw [z]⟩
  refine ⟨fun σ G => Same H G ∧ σ = [some (.ref a), some (.ref a1), some (.ref a2), some (.ref a3), some (.ref a4), none, none, none, none, none] ∧ ff.length = pp.length ∧ pp.length = uu.length ∧ uu.length = hh.length, ?_, ?_⟩
  · refine ⟨_, rfl, a, rfl, ⟨_, SqL.of (s _ _ ha)⟩, fun Da nD => ?_⟩
    refine lc_acc (walk_list (K := K) (a := a) (xs := [V.ref a1, V.ref a2, V.ref a3, V.ref a4])) (fun i _ y => ∀ b, [true, decide (pp.length = ff.length), decide (uu.length = ff.length), decide (hh.length = ff.length)][i]? = some b → y = .bl b) (fun i H H' y l h _ _ => h) nD (by show 4 ≤ 900; decide) (fun H2 s2 => SqL.of (s2 _ _ (s _ _ ha))) ?_ ?_
    · rintro i w' H2 H3 kk hi s3 ⟨rfl, hz⟩ hk
      have sH := s.trans s3
      match i, hi, hz, hk with
      | 0, _, hz, hk =>
        obtain rfl : V.ref a1 = w' := Option.some.inj hz
        refine ⟨rfl, _, rfl, a1, y1, rfl, .inl (SqL.of (sH _ _ h1)), _, rfl, a1, y1, rfl, .inl (SqL.of (sH _ _ h1)), rfl, hk _ _ (Same.refl _) fun b hb => ?_⟩
        rw [k1, il, ← Option.some.inj hb, decide_eq_true rfl]
      | 1, _, hz, hk =>
        obtain rfl : V.ref a2 = w' := Option.some.inj hz
        refine ⟨rfl, _, rfl, a2, y2, rfl, .inl (SqL.of (sH _ _ h2)), _, rfl, a1, y1, rfl, .inl (SqL.of (sH _ _ h1)), rfl, hk _ _ (Same.refl _) fun b hb => ?_⟩
        rw [k2, k1, il, ← Option.some.inj hb]
      | 2, _, hz, hk =>
        obtain rfl : V.ref a3 = w' := Option.some.inj hz
        refine ⟨rfl, _, rfl, a3, y3, rfl, .inl (SqL.of (sH _ _ h3)), _, rfl, a1, y1, rfl, .inl (SqL.of (sH _ _ h1)), rfl, hk _ _ (Same.refl _) fun b hb => ?_⟩
        rw [k3, k1, il, ← Option.some.inj hb]
      | 3, _, hz, hk =>
        obtain rfl : V.ref a4 = w' := Option.some.inj hz
        refine ⟨rfl, _, rfl, a4, y4, rfl, .inl (SqL.of (sH _ _ h4)), _, rfl, a1, y1, rfl, .inl (SqL.of (sH _ _ h1)), rfl, hk _ _ (Same.refl _) fun b hb => ?_⟩
        rw [k4, k1, il, ← Option.some.inj hb]
    · intro H2 zs s2 hDa hlz hR
      have ez : zs = [true, decide (pp.length = ff.length), decide (uu.length = ff.length), decide (hh.length = ff.length)].map V.bl := by
        apply List.ext_getElem?
        intro i
        rcases Nat.lt_or_ge i 4 with c | c
        · have e := List.getElem?_eq_getElem (l := zs) (i := i) (by show i < zs.length; rw [hlz]; exact c)
          rw [e, List.getElem?_map]
          have c' : i < [true, decide (pp.length = ff.length), decide (uu.length = ff.length), decide (hh.length = ff.length)].length := c
          rw [hR i _ e _ (List.getElem?_eq_getElem c'), List.getElem?_eq_getElem c']
          rfl
        · rw [List.getElem?_eq_none (by rw [hlz]; exact c), List.getElem?_eq_none (by show 4 ≤ i; exact c)]
      have sA := s.trans s2
      refine ⟨Da, [true, decide (pp.length = ff.length), decide (uu.length = ff.length), decide (hh.length = ff.length)], rfl, by rw [← ez]; exact SqL.of hDa, ?_⟩
      refine ⟨_, rfl, ?_⟩
      by_cases z : ff.length = pp.length ∧ pp.length = uu.length ∧ uu.length = hh.length
      · obtain ⟨z1, z2, z3⟩ := z
        rw [decide_eq_true z1.symm, decide_eq_true (show uu.length = ff.length by omega), decide_eq_true (show hh.length = ff.length by omega)]
        exact iteF ⟨sA, rfl, z1, z2, z3⟩
      · have e0 : [true, decide (pp.length = ff.length), decide (uu.length = ff.length), decide (hh.length = ff.length)].all id = false := by
          show (true && (decide (pp.length = ff.length) && (decide (uu.length = ff.length) && (decide (hh.length = ff.length) && true)))) = false
          by_cases a1 : pp.length = ff.length
          · by_cases a2 : uu.length = ff.length
            · rw [decide_eq_false (show ¬ hh.length = ff.length from fun a3 => z ⟨a1.symm, by omega, by omega⟩)]
              simp
            · rw [decide_eq_false a2]
              simp
          · rw [decide_eq_false a1]
            simp
        rw [e0]
        rw [if_pos z] at q
        exact iteT ⟨(by show 2 ≤ sizeLine; decide), fun t nt => q t _ (sA.trans (new_same nt _)) upd_same⟩
  clear s
  rintro σ G ⟨s, rfl, z1, z2, z3⟩
  rw [if_neg (fun y => y ⟨z1, z2, z3⟩)] at q
  have one : ∀ {ys : List V} {qs : List Rat} {G : Hp}, Nl K G ys (0 :: qs) → 2 ≤ qs.length → ∃ y, ys[1]? = some y ∧ Nq K G y (serS qs 1) := fun {ys qs G} mm l2 => by
    obtain ⟨y, ey, ny⟩ := mm.get' (i := 1) (by rw [List.length_cons]; omega)
    refine ⟨y, ey, ?_⟩
    have er : (0 :: qs)[1]'(by rw [List.length_cons]; omega) = serS qs 1 := by
      show qs[0]'(by omega) = qs.getD 0 0
      rw [List.getD_eq_getElem?_getD, List.getElem?_eq_getElem (by omega)]
      rfl
    rw [er] at ny
    exact ny
  obtain ⟨c3, ec3, nc3⟩ := one m3 n3
  obtain ⟨c4, ec4, nc4⟩ := one m4 n4
  obtain ⟨c2, ec2, nc2⟩ := one m2 n2
  refine ⟨fun σ G => Same H G ∧ σ = [some (.ref a), some (.ref a1), some (.ref a2), some (.ref a3), some (.ref a4), none, none, none, none, none] ∧ serS uu 1 = 1, ?_, ?_⟩
  · refine ⟨_, rfl, a3, y3, 1, c3, rfl, rfl, SqL.of (s _ _ h3), at_of (j := 1) rfl ec3, (by show 2 ≤ sizeLine; decide), fun t nt => ?_⟩
    have s4 := new_same nt (HO.tup [.int 1, .int 1])
    have t1' : Nq K (upd G t (HO.tup [.int 1, .int 1])) (.ref t) 1 := .at (K := K) upd_same
    generalize upd G t (HO.tup [.int 1, .int 1]) = G1 at s4 t1'
    have sC := s.trans s4
    refine ⟨tupQ (serS uu 1), tupQ 1, (nc3.same sC).dp, t1'.dp, rfl, rfl, _, rfl, ?_⟩
    rw [eqv_num]
    by_cases y : serS uu 1 = 1
    · rw [decide_eq_true y]
      exact iteF ⟨sC, rfl, y⟩
    · rw [decide_eq_false y]
      rw [if_pos y] at q
      exact iteT ⟨(by show 2 ≤ sizeLine; decide), fun t nt => q t _ (sC.trans (new_same nt _)) upd_same⟩
  clear s
  rintro σ G ⟨s, rfl, s1⟩
  rw [if_neg (fun y => y s1)] at q
  refine ⟨fun σ G => Same H G ∧ σ = [some (.ref a), some (.ref a1), some (.ref a2), some (.ref a3), some (.ref a4), none, none, none, none, none] ∧ serS hh 1 ≠ 0, ?_, ?_⟩
  · refine ⟨_, rfl, a4, y4, 1, c4, rfl, rfl, SqL.of (s _ _ h4), at_of (j := 1) rfl ec4, (by show 2 ≤ sizeLine; decide), fun t nt => ?_⟩
    have s4 := new_same nt (HO.tup [.int 0, .int 1])
    have t1' : Nq K (upd G t (HO.tup [.int 0, .int 1])) (.ref t) 0 := .at (K := K) upd_same
    generalize upd G t (HO.tup [.int 0, .int 1]) = G1 at s4 t1'
    have sC := s.trans s4
    refine ⟨tupQ (serS hh 1), tupQ 0, (nc4.same sC).dp, t1'.dp, rfl, rfl, _, rfl, ?_⟩
    rw [eqv_num]
    by_cases y : serS hh 1 = 0
    · rw [decide_eq_true y]
      rw [if_pos y] at q
      exact iteT ⟨(by show 2 ≤ sizeLine; decide), fun t nt => q t _ (sC.trans (new_same nt _)) upd_same⟩
    · rw [decide_eq_false y]
      exact iteF ⟨sC, rfl, y⟩
  clear s
  rintro σ G ⟨s, rfl, h0⟩
  rw [if_neg h0] at q
  obtain ⟨⟨L1, B1, M1, C1, e11, e12, e13, e14, e15, e16, e17⟩, ⟨L2', B2, M2, C2, e21, e22, e23, e24, e25, e26, e27⟩, ⟨L3, B3, M3, C3, e31, e32, e33, e34, e35, e36, e37⟩, oh, oc⟩ := dk z1 z2 z3 s1 h0
  have al : ∀ {L B : Nat} {qs : List Rat}, AllD L B qs → AllD L B (0 :: qs) := fun {L B qs} h q hq => by
    rcases List.mem_cons.mp hq with rfl | hq
    · exact Dq.zero
    · exact h q hq
  have ec : ∀ {qs rs : List Rat}, toL (0 :: qs).length (cmpS (ser (0 :: qs)) (ser (0 :: rs))) = 0 :: cmpL qs rs := fun {qs rs} => by
    show toL (qs.length + 1) (cmpS (serS qs) (serS rs)) = _
    rw [← toT0 (show cmpS (serS qs) (serS rs) 0 = 0 by rw [cmpS_zero]; rfl)]
    rfl
  refine ⟨fun σ G => ∃ (sl s3 s4 s5 : Addr) (va vb vc vd : V), σ = [some (.ref a), some (.ref a1), some (.ref a2), some (.ref a3), some (.ref a4), none, some (.ref sl), none, none, none] ∧ Same H G ∧ G sl = some (.lst [.ref s3, .ref s4, .ref s5]) ∧ G s3 = some (.tup [.int 3, va, .ref a1]) ∧ G s4 = some (.tup [.int 4, vb, .ref a1]) ∧ G s5 = some (.tup [.int 5, vc, vd]) ∧ Ls K G va (0 :: cmpL pp uu) ∧ Ls K G vb (0 :: cmpL uu pp) ∧ Ls K G vc (0 :: cmpL hh pp) ∧ Ls K G vd ((0 :: hh).map (· * serS pp 1)), ?_, ?_⟩
  · refine ⟨_, rfl, _, rfl, .ref a2, .ref a3, 0 :: pp, 0 :: uu, L1, B1, M1, C1, rfl, l2.same s, l3.same s, by rw [List.length_cons, List.length_cons, z2], by rw [List.length_cons]; omega, by rw [List.length_cons]; omega, rfl, e11, e12, e13, e14, e15, al e16, al e17, fun b1 G1 x1 s1' nb1 hb1 mb1 => ?_⟩
    rw [ec] at mb1
    refine ⟨_, rfl, (by show 3 ≤ sizeLine; decide), fun u3 nu3 => ?_⟩
    have s2 := new_same nu3 (HO.tup [.int 3, .ref b1, .ref a1])
    have hu3 : upd G1 u3 (HO.tup [.int 3, .ref b1, .ref a1]) u3 = some (.tup [.int 3, .ref b1, .ref a1]) := upd_same
    generalize upd G1 u3 (HO.tup [.int 3, .ref b1, .ref a1]) = G2 at s2 hu3
    have sA := s.trans (s1'.trans s2)
    refine ⟨_, rfl, _, rfl, .ref a3, .ref a2, 0 :: uu, 0 :: pp, L2', B2, M2, C2, rfl, l3.same sA, l2.same sA, by rw [List.length_cons, List.length_cons, z2], by rw [List.length_cons]; omega, by rw [List.length_cons]; omega, rfl, e21, e22, e23, e24, e25, al e26, al e27, fun b2 G3 x3 s3' nb3 hb3 mb3 => ?_⟩
    rw [ec] at mb3
    refine ⟨_, rfl, (by show 3 ≤ sizeLine; decide), fun u4 nu4 => ?_⟩
    have s4' := new_same nu4 (HO.tup [.int 4, .ref b2, .ref a1])
    have hu4 : upd G3 u4 (HO.tup [.int 4, .ref b2, .ref a1]) u4 = some (.tup [.int 4, .ref b2, .ref a1]) := upd_same
    generalize upd G3 u4 (HO.tup [.int 4, .ref b2, .ref a1]) = G4 at s4' hu4
    have sB := sA.trans (s3'.trans s4')
    refine ⟨_, rfl, _, rfl, .ref a4, .ref a2, 0 :: hh, 0 :: pp, L3, B3, M3, C3, rfl, l4.same sB, l2.same sB, by rw [List.length_cons, List.length_cons]; omega, by rw [List.length_cons]; omega, by rw [List.length_cons]; omega, rfl, e31, e32, e33, e34, e35, al e36, al e37, fun b3 G5 x5 s5' nb5 hb5 mb5 => ?_⟩
    rw [ec] at mb5
    have sC := sB.trans s5'
    refine ⟨_, rfl, _, rfl, a2, y2, 1, c2, rfl, rfl, SqL.of (sC _ _ h2), at_of (j := 1) rfl ec2, .ref a4, c2, 0 :: hh, serS pp 1, rfl, l4.same sC, nc2.same sC, by rw [List.length_cons]; omega, ?_, oc, fun b4 G6 x6 s6' nb6 hb6 mb6 => ?_⟩
    · intro z hz
      rcases List.mem_cons.mp hz with rfl | hz
      · exact Ok.zero
      · exact oh z hz
    refine ⟨(by show 3 ≤ sizeLine; decide), fun u5 nu5 => ⟨(by show 3 ≤ sizeLine; decide), fun sl nsl => ?_⟩⟩
    have s7 := new_same nu5 (HO.tup [.int 5, .ref b3, .ref b4])
    have s8 := new_same nsl (HO.lst [.ref u3, .ref u4, .ref u5])
    have s78 := s7.trans s8
    have sD := s6'.trans s78
    have sE := s5'.trans sD
    have sF := (s3'.trans s4').trans sE
    exact ⟨sl, u3, u4, u5, .ref b1, .ref b2, .ref b3, .ref b4, rfl, sC.trans sD, upd_same, sF _ _ hu3, sE _ _ hu4, s8 _ _ upd_same, ⟨b1, x1, rfl, (s2.trans sF) _ _ hb1, mb1.same (s2.trans sF)⟩, ⟨b2, x3, rfl, (s4'.trans sE) _ _ hb3, mb3.same (s4'.trans sE)⟩, ⟨b3, x5, rfl, sD _ _ hb5, mb5.same sD⟩, ⟨b4, x6, rfl, s78 _ _ hb6, mb6.same s78⟩⟩
  clear s
  rintro σ G ⟨sl, s3, s4, s5, va, vb, vc, vd, rfl, s, hsl, e3, e4, e5, la, lb, lc, ld⟩
  have l5 : (0 :: hh).map (· * serS pp 1) = 0 :: cmpL (scL ff.length (serS pp 1)) hh := by
    rw [scL_cmp (by omega) _ (by omega)]
    show (0 * serS pp 1) :: hh.map (· * serS pp 1) = _
    rw [Rat.zero_mul]
  rw [l5] at ld
  have lsc : (scL ff.length (serS pp 1)).length = ff.length := by
    unfold scL
    rw [List.length_cons, List.length_replicate]
    omega
  refine ⟨_, rfl, sl, rfl, ⟨_, SqL.of hsl⟩, ?_⟩
  refine for_it (walk_list (K := K) (a := sl) (xs := [V.ref s3, V.ref s4, V.ref s5])) (fun i σ G1 => Same G G1 ∧ (∃ v7 v8 v9, σ = [some (.ref a), some (.ref a1), some (.ref a2), some (.ref a3), some (.ref a4), none, some (.ref sl), v7, v8, v9]) ∧ (1 ≤ i → unqD 3 (cmpL pp uu) ff = none) ∧ (2 ≤ i → unqD 4 (cmpL uu pp) ff = none) ∧ (3 ≤ i → unqD 5 (cmpL hh pp) (cmpL (scL ff.length (serS pp 1)) hh) = none)) ⟨Same.refl G, ⟨none, none, none, rfl⟩, fun h => by omega, fun h => by omega, fun h => by omega⟩ (fun i σ G1 _ h => SqL.of (h.1 _ _ hsl)) ?_ ?_
  · rintro i x σ G1 G2 hi ⟨sg, ⟨v7, v8, v9, rfl⟩, p1, p2, p3⟩ ⟨rfl, hx⟩
    have sT := s.trans sg
    have self : ∀ (c : Int) (xs : List Rat), unqD c xs xs = none := fun c xs => by
      unfold unqD
      rw [difN_same xs xs 0 rfl]
      rfl
    match i, hi, hx, p1, p2 with
    | 0, _, hx, _, _ =>
      obtain rfl : V.ref s3 = x := Option.some.inj hx
      refine ⟨s3, _, rfl, SqT.of (sg _ _ e3), rfl, _, [_, _], rfl, _, [_], rfl, _, [], rfl, rfl, ?_⟩
      refine ⟨_, rfl, _, rfl, datL _, datL _, (la.same sg).dp, (l1.same sT).dp, shaped_list _, shaped_list _, _, rfl, ?_⟩
      rw [eqv_list]
      by_cases z : cmpL pp uu = ff
      · rw [decide_eq_true (show 0 :: cmpL pp uu = 0 :: ff by rw [z])]
        exact iteF ⟨sg, ⟨_, _, _, rfl⟩, fun _ => by rw [z]; exact self 3 _, fun h => by omega, fun h => by omega⟩
      · rw [decide_eq_false (show ¬ 0 :: cmpL pp uu = 0 :: ff from fun y => z (List.tail_eq_of_cons_eq y))]
        obtain ⟨k, ek, eu⟩ := fr_unq 3 (xs := cmpL pp uu) (ys := ff) (by rw [cmpL_len]; exact z1.symm) z
        rw [eu] at q
        refine iteT ⟨_, rfl, _, rfl, _, rfl, va, .ref a1, _, _, rfl, la.same sg, l1.same sT, by rw [List.length_cons, List.length_cons, cmpL_len, z1], by rw [List.length_cons, cmpL_len]; omega, ?_⟩
        rw [ek]
        exact ⟨(by show 2 ≤ sizeLine; decide), fun t nt => q t _ (sT.trans (new_same nt _)) upd_same⟩
    | 1, _, hx, p1, _ =>
      obtain rfl : V.ref s4 = x := Option.some.inj hx
      rw [p1 (by omega)] at q
      refine ⟨s4, _, rfl, SqT.of (sg _ _ e4), rfl, _, [_, _], rfl, _, [_], rfl, _, [], rfl, rfl, ?_⟩
      refine ⟨_, rfl, _, rfl, datL _, datL _, (lb.same sg).dp, (l1.same sT).dp, shaped_list _, shaped_list _, _, rfl, ?_⟩
      rw [eqv_list]
      by_cases z : cmpL uu pp = ff
      · rw [decide_eq_true (show 0 :: cmpL uu pp = 0 :: ff by rw [z])]
        exact iteF ⟨sg, ⟨_, _, _, rfl⟩, fun _ => p1 (by omega), fun _ => by rw [z]; exact self 4 _, fun h => by omega⟩
      · rw [decide_eq_false (show ¬ 0 :: cmpL uu pp = 0 :: ff from fun y => z (List.tail_eq_of_cons_eq y))]
        obtain ⟨k, ek, eu⟩ := fr_unq 4 (xs := cmpL uu pp) (ys := ff) (by rw [cmpL_len, ← z2]; exact z1.symm) z
        rw [eu] at q
        refine iteT ⟨_, rfl, _, rfl, _, rfl, vb, .ref a1, _, _, rfl, lb.same sg, l1.same sT, by rw [List.length_cons, List.length_cons, cmpL_len, ← z2, z1], by rw [List.length_cons, cmpL_len]; omega, ?_⟩
        rw [ek]
        exact ⟨(by show 2 ≤ sizeLine; decide), fun t nt => q t _ (sT.trans (new_same nt _)) upd_same⟩
    | 2, _, hx, p1, p2 =>
      obtain rfl : V.ref s5 = x := Option.some.inj hx
      rw [p1 (by omega), p2 (by omega)] at q
      refine ⟨s5, _, rfl, SqT.of (sg _ _ e5), rfl, _, [_, _], rfl, _, [_], rfl, _, [], rfl, rfl, ?_⟩
      refine ⟨_, rfl, _, rfl, datL _, datL _, (lc.same sg).dp, (ld.same sg).dp, shaped_list _, shaped_list _, _, rfl, ?_⟩
      rw [eqv_list]
      by_cases z : cmpL hh pp = cmpL (scL ff.length (serS pp 1)) hh
      · rw [decide_eq_true (show 0 :: cmpL hh pp = 0 :: cmpL (scL ff.length (serS pp 1)) hh by rw [z])]
        exact iteF ⟨sg, ⟨_, _, _, rfl⟩, fun _ => p1 (by omega), fun _ => p2 (by omega), fun _ => by rw [z]; exact self 5 _⟩
      · rw [decide_eq_false (show ¬ 0 :: cmpL hh pp = 0 :: cmpL (scL ff.length (serS pp 1)) hh from fun y => z (List.tail_eq_of_cons_eq y))]
        obtain ⟨k, ek, eu⟩ := fr_unq 5 (xs := cmpL hh pp) (ys := cmpL (scL ff.length (serS pp 1)) hh) (by rw [cmpL_len, cmpL_len, lsc]; omega) z
        rw [eu] at q
        refine iteT ⟨_, rfl, _, rfl, _, rfl, vc, vd, _, _, rfl, lc.same sg, ld.same sg, by rw [List.length_cons, List.length_cons, cmpL_len, cmpL_len, lsc, z1, z2, z3], by rw [List.length_cons, cmpL_len]; omega, ?_⟩
        rw [ek]
        exact ⟨(by show 2 ≤ sizeLine; decide), fun t nt => q t _ (sT.trans (new_same nt _)) upd_same⟩
  · rintro σ G1 ⟨sg, ⟨v7, v8, v9, rfl⟩, p1, p2, p3⟩
    rw [p1 (by show 1 ≤ 3; decide), p2 (by show 2 ≤ 3; decide), p3 (by show 3 ≤ 3; decide)] at q
    exact q G1 (s.trans sg)
end
end Kx
end
section
set_option maxHeartbeats 4000000
namespace Kx
open PySem PySem.Spec PyProof.Rows L2 RZ
/-! ### unled: g turned back, f, g -/
def spUnl (K : PySem.W.Frag) : Sp := fun vs H Q _ => ∃ (vf vg : V) (f g : Ser) (N L B : Nat), vs = [vf, vg] ∧ Ls K H vf (toL (N + 1) f) ∧ Ls K H vg (toL (N + 1) g) ∧ f 0 = 0 ∧ Tn g N ∧ 1 ≤ N ∧ N ≤ 7 ∧ 0 < L ∧ L < 2 ^ 1000 ∧ B ≤ 10000 ∧ (∀ k, k ≤ N → Dq L B (f k)) ∧ GivesL K H Q (toL (N + 1) (cmpS (invS g) (cmpS f g)))
theorem cmp_dq {f g : Ser} {N L B M Z : Nat} (f0 : f 0 = 0) (N11 : N ≤ 11) (hf : ∀ k, k ≤ N → Dq L B (f k)) (gg : Gl M Z g N) {k : Nat} (hk : k ≤ N) : Dq (L * M) (B + Z + 4) (cmpS f g k) := by
  refine dq_sum (c := 4) _ (fun i hi => ?_) (by omega)
  rcases Nat.eq_zero_or_pos i with e | e
  · rw [e, f0, Rat.zero_mul]
    exact Dq.zero
  · exact (hf i (by omega)).mul (gg i k e hk)
section
variable {P : Program} {w : World} {K : PySem.W.Frag} {mg : Str → Option Value} {base : Heap} {f o0 : Addr} {fd : FuncData}
theorem scUnl : FnScope ["_law_f", "_law_g"] ["_law_f", "_law_g"] (defScope L_unled) := ⟨rfl, rfl, rfl, by decide +kernel, rfl, by decide +kernel, by decide +kernel⟩
theorem ok_unled (F : Fun K "_law_unled" "_law_unled" L_unled f fd) (UP : Use P w K mg base CX0 2 "_law_put" ["_law_u", "_law_f"] (spPutL K) []) (UB : Use P w K mg base CX0 5 "_law_back" ["_law_h"] (spBac K) []) : FnOk P w K mg base CX0 6 f fd ["_law_f", "_law_g"] (spUnl K) := by
  refine F.ok scUnl (fun vs H Q E h => ?_) (fun cdv A outer s H vs Q E hr h => ?_)
  · obtain ⟨vf, vg, f, g, N, L, B, rfl, _⟩ := h
    rfl
  obtain ⟨vf, vg, f, g, N, L, B, rfl, lf, lg, f0, tn, N1, N7, l0, l, b, hf, q⟩ := h
  have hr2 := hr.mono (show 2 ≤ 5 by decide)
  refine ⟨_, pss_one (ps_ret (pe_use UP hr2 rfl pass0 (pa_cons (pe_use UB hr rfl pass0 (pa_cons (pv 1) pa_nil)) (pa_cons (pe_use UP hr2 rfl pass0 (pa_cons (pv 0) (pa_cons (pv 1) pa_nil))) pa_nil)))), ?_⟩
  obtain ⟨M, Z, m0, m, z, g1, g2⟩ := tn.ex
  have sM := (lt70 m m0).2
  have sL : SmL L := ⟨l0, Nat.lt_of_lt_of_le l (Nat.pow_le_pow_right (by decide) (by decide))⟩
  have lm : L * M < 2 ^ 1070 := lt_two l m
  have sLM : SmL (L * M) := ⟨Nat.mul_pos l0 m0, Nat.lt_of_lt_of_le lm (Nat.pow_le_pow_right (by decide) (by decide))⟩
  have pwb : ∀ {X a : Nat}, X < 2 ^ a → X ^ (N + 1) ≤ 2 ^ (a * (N + 1)) := fun {X a} h => by
    rw [Nat.pow_mul]
    exact Nat.pow_le_pow_left (Nat.le_of_lt h) _
  refine ⟨_, rfl, vg, g, N, rfl, lg, tn.ledb N1 (by omega), fun b1 H1 zs s1 nb1 hb1 mb1 => ?_⟩
  refine ⟨_, rfl, _, rfl, vf, vg, toL (N + 1) f, toL (N + 1) g, L, B, M, Z, rfl, lf.same s1, lg.same s1, by rw [toL_len, toL_len], by rw [toL_len]; omega, by rw [toL_len]; omega, by rw [ser_toL 0 (by omega), tn.h0], sL, by omega, sM, by omega, ?_, allD_toL fun k hk => hf k (by omega), allD_toL fun k hk => g1.one (by omega), fun b2 H2 ys s2 nb2 hb2 mb2 => ?_⟩
  · rw [toL_len]
    have h2 := Nat.mul_lt_mul_of_lt_of_le l (pwb m) (Nat.pow_pos (by decide))
    rw [← Nat.pow_add] at h2
    exact Nat.lt_of_lt_of_le h2 (Nat.pow_le_pow_right (by decide) (by omega))
  rw [toL_len, toL_eq (EqTo.cmp ser_toL ser_toL)] at mb2
  have c0 : cmpS f g 0 = 0 := by rw [cmpS_zero, f0]
  refine ⟨.ref b1, .ref b2, toL (N + 1) (invS g), toL (N + 1) (cmpS f g), M, Z, L * M, B + Z + 4, rfl, ⟨b1, zs, rfl, s2 _ _ hb1, mb1.same s2⟩, ⟨b2, ys, rfl, hb2, mb2⟩, by rw [toL_len, toL_len], by rw [toL_len]; omega, by rw [toL_len]; omega, by rw [ser_toL 0 (by omega), c0], sM, by omega, sLM, by omega, ?_, allD_toL fun k hk => g2.one (by omega), allD_toL fun k hk => cmp_dq f0 (by omega) hf g1 (by omega), fun b3 H3 ws s3 nb3 hb3 mb3 => ?_⟩
  · rw [toL_len]
    have h2 := Nat.mul_lt_mul_of_lt_of_le m (pwb lm) (Nat.pow_pos (by decide))
    rw [← Nat.pow_add] at h2
    exact Nat.lt_of_lt_of_le h2 (Nat.pow_le_pow_right (by decide) (by omega))
  rw [toL_len, toL_eq (EqTo.cmp ser_toL ser_toL)] at mb3
  exact q b3 H3 ws (s1.trans (s2.trans s3)) ((s1.trans s2).free nb3) hb3 mb3
end
end Kx
end
section
set_option maxHeartbeats 4000000
namespace Kx
open PySem PySem.Spec PyProof.Rows L2 RZ
theorem Gm.cg {D m n : Nat} {F G : Ser} (h : Gm D m F n) (e : EqTo (n + 1) G F) : Gm D m G n := ⟨by rw [e 0 (by omega)]; exact h.z, fun k hk => by rw [e (k + 1) (by omega)]; exact h.g k hk⟩
def dqB (E B : Nat) (q : Rat) : Bool := decide ((q * (E : Rat)).den = 1) && decide ((q * (E : Rat)).num.natAbs < 2 ^ B)
theorem dqB_ok {E B : Nat} {q : Rat} (h : dqB E B q = true) : Dq E B q := by
  unfold dqB at h
  rw [Bool.and_eq_true, decide_eq_true_eq, decide_eq_true_eq] at h
  exact ⟨(q * (E : Rat)).num, Rat.ext rfl h.1, h.2⟩
/-- a stretch's lead: its inverse, and its powers less itself -/
def ldB (c b : Rat) (E : Nat) : Bool := decide (c * b = 1) && dqB 6 5 c && dqB 6 5 b && decide (c ≠ 0) && decide (c ≠ 1) && decide (c ≠ -1) &&
  (List.range 7).all fun k => (k == 0) || (dqB (6 ^ 7) 60 (c - pwQ c (k + 1)) && decide (c - pwQ c (k + 1) ≠ 0) && (List.range k).all fun i => dqB E 40 (pwQ c (i + 1) / (c - pwQ c (k + 1))))
structure LdS (c b : Rat) (E : Nat) : Prop where
  e : c * b = 1
  a : Dq 6 5 c
  b : Dq 6 5 b
  n0 : c ≠ 0
  n1 : c ≠ 1
  nm : c ≠ -1
  d : ∀ k, 1 ≤ k → k < 7 → Dq (6 ^ 7) 60 (c - pwQ c (k + 1)) ∧ c - pwQ c (k + 1) ≠ 0
  w : ∀ k i, k < 7 → i < k → Dq E 40 (pwQ c (i + 1) / (c - pwQ c (k + 1)))
theorem ldB_ok {c b : Rat} {E : Nat} (h : ldB c b E = true) : LdS c b E := by
  unfold ldB at h
  simp only [Bool.and_eq_true, decide_eq_true_eq] at h
  obtain ⟨⟨⟨⟨⟨⟨h1, h2⟩, h3⟩, h4⟩, h5⟩, h6⟩, h7⟩ := h
  have key : ∀ k, 1 ≤ k → k < 7 → (dqB (6 ^ 7) 60 (c - pwQ c (k + 1)) = true ∧ c - pwQ c (k + 1) ≠ 0) ∧ ((List.range k).all fun i => dqB E 40 (pwQ c (i + 1) / (c - pwQ c (k + 1)))) = true := fun k k1 hk => by
    have z := List.all_eq_true.mp h7 k (List.mem_range.mpr hk)
    rw [Bool.or_eq_true] at z
    rcases z with z | z
    · have := beq_iff_eq.mp z
      omega
    · rw [Bool.and_eq_true, Bool.and_eq_true, decide_eq_true_eq] at z
      exact z
  exact ⟨h1, dqB_ok h2, dqB_ok h3, h4, h5, h6, fun k k1 hk => ⟨dqB_ok (key k k1 hk).1.1, (key k k1 hk).1.2⟩, fun k i hk hi => dqB_ok (List.all_eq_true.mp (key k (by omega) hk).2 i (List.mem_range.mpr hi))⟩
theorem ld_2 : LdS 2 (mkRat 1 2) 9765 := ldB_ok (by decide +kernel)
theorem ld_m2 : LdS (-2) (mkRat (-1) 2) 3465 := ldB_ok (by decide +kernel)
theorem ld_h : LdS (mkRat 1 2) 2 9765 := ldB_ok (by decide +kernel)
theorem ld_3 : LdS 3 (mkRat 1 3) 880880 := ldB_ok (by decide +kernel)
theorem cmp_00 {p q : Ser} (p0 : p 0 = 0) : cmpS p q 0 = 0 := by rw [cmpS_zero, p0]
/-- a step in other letters -/
def cjS (h a : Ser) : Ser := cmpS (invS h) (cmpS a h)
theorem cj_0 {h a : Ser} : cjS h a 0 = 0 := cmp_00 rfl
section
variable {h a b : Ser} (h0 : h 0 = 0) (h1 : h 1 ≠ 0)
include h0 h1
theorem cj_one (a0 : a 0 = 0) : cjS h a 1 = a 1 := by
  unfold cjS
  rw [cmp_at1 (show invS h 0 = 0 from rfl), cmp_at1 a0]
  have := inv_one h0 h1
  grind
theorem cj_led (a0 : a 0 = 0) : cmpS h (cjS h a) = cmpS a h := by
  have z : cmpS a h 0 = 0 := cmp_00 a0
  unfold cjS
  rw [← cmpS_assoc (show invS h 0 = 0 from rfl) z, x_inv h0 h1, xl0 z]
theorem cj_mul (a0 : a 0 = 0) (b0 : b 0 = 0) : cmpS (cjS h a) (cjS h b) = cjS h (cmpS a b) := by
  have za : cmpS a h 0 = 0 := cmp_00 a0
  have zb : cjS h b 0 = 0 := cj_0
  have e : cmpS (cjS h a) (cjS h b) = cmpS (invS h) (cmpS (cmpS a h) (cjS h b)) := cmpS_assoc za zb
  rw [e, cmpS_assoc h0 zb, cj_led h0 h1 b0, ← cmpS_assoc b0 h0]
  rfl
theorem cj_x : cjS h xS = xS := by
  unfold cjS
  rw [xl0 h0, inv_x h0 h1]
theorem cj_un (a0 : a 0 = 0) : a = cmpS (cmpS h (cjS h a)) (invS h) := by
  rw [cj_led h0 h1 a0]
  exact led_uni h0 h1 rfl
end
theorem sc_x (c : Rat) {h : Ser} (h0 : h 0 = 0) : cmpS (scS c xS) h = scS c h := by rw [cmp_sc, xl0 h0]
theorem scx0 (c : Rat) : scS c xS 0 = 0 := by
  show c * 0 = 0
  rw [Rat.mul_zero]
theorem scx1 (c : Rat) : scS c xS 1 = c := by
  show c * 1 = c
  rw [Rat.mul_one]
theorem sc_wt : scS (-1) xS = wtS (-1) xS := by
  funext k
  show -1 * xS k = xS k * pwQ (-1) k
  by_cases c : k = 1
  · rw [c]; decide +kernel
  · rw [show xS k = 0 from if_neg c, Rat.zero_mul, Rat.mul_zero]
theorem pw_m1 : ∀ k, pwQ (-1) (2 * k) = 1 ∧ pwQ (-1) (2 * k + 1) = -1
  | 0 => by decide +kernel
  | k + 1 => by
    have := pw_m1 k
    have e1 : pwQ (-1) (2 * (k + 1)) = pwQ (-1) (2 * k + 1) * -1 := rfl
    have e2 : pwQ (-1) (2 * (k + 1) + 1) = pwQ (-1) (2 * (k + 1)) * -1 := rfl
    rw [e2, e1, this.2]
    decide +kernel
/-- odd places alone -/
def OddS (o : Ser) : Prop := ∀ k, o (2 * k) = 0
theorem odd_wt {o : Ser} (h : OddS o) : wtS (-1) o = scS (-1) o := by
  funext k
  show o k * pwQ (-1) k = -1 * o k
  rcases Nat.mod_two_eq_zero_or_one k with c | c
  · rw [show k = 2 * (k / 2) by omega, h, Rat.zero_mul, Rat.mul_zero]
  · rw [show k = 2 * (k / 2) + 1 by omega, (pw_m1 _).2, Rat.mul_comm]
theorem odd_com {o : Ser} (h : OddS o) : cmpS o (scS (-1) xS) = cmpS (scS (-1) xS) o := by
  have o0 : o 0 = 0 := h 0
  rw [sc_x _ o0, sc_wt, cmp_wt, cmpS_xr, odd_wt h]
theorem neg_neg : cmpS (scS (-1) xS) (scS (-1) xS) = xS := by
  rw [sc_x _ (scx0 _)]
  funext k
  show -1 * (-1 * xS k) = xS k
  grind
section
variable {h o : Ser} (h0 : h 0 = 0) (h1 : h 1 ≠ 0) (ho : OddS o) (o1 : o 1 = 1)
include h0 h1
theorem cf_1 : cjS h (scS (-1) xS) 1 = -1 := by rw [cj_one h0 h1 (scx0 _), scx1]
theorem cf_ss : cmpS (cjS h (scS (-1) xS)) (cjS h (scS (-1) xS)) = xS := by rw [cj_mul h0 h1 (scx0 _) (scx0 _), neg_neg, cj_x h0 h1]
include ho
theorem cf_co : cmpS (cjS h (scS (-1) xS)) (cjS h o) = cmpS (cjS h o) (cjS h (scS (-1) xS)) := by
  have o0 : o 0 = 0 := ho 0
  rw [cj_mul h0 h1 (scx0 _) o0, cj_mul h0 h1 o0 (scx0 _), odd_com ho]
end
theorem wt_wt {a b : Rat} (e : a * b = 1) (f : Ser) : wtS b (wtS a f) = f := by
  funext k
  show f k * pwQ a k * pwQ b k = f k
  rw [Rat.mul_assoc, pwQ_mul e, Rat.mul_one]
theorem cj_low {c b : Rat} {ht o : Ser} (e : c * b = 1) (h0 : ht 0 = 0) (h1 : ht 1 ≠ 0) : cjS (scS c ht) o = cjS ht (scS b (wtS c o)) := by
  have e' : b * c = 1 := by rw [Rat.mul_comm]; exact e
  have a1 : cmpS o (scS c ht) = cmpS (wtS c o) ht := by
    have := wt_sc e (wtS c o) ht
    rw [wt_wt e] at this
    exact this
  have a2 : cmpS (wtS c o) ht = scS c (cmpS (scS b (wtS c o)) ht) := by
    rw [cmp_sc, sc_sc e]
  unfold cjS
  rw [a1, a2, inv_sc e h0 h1, wt_sc e]
theorem lo_lin {c b k : Rat} (e : c * b = 1) : scS b (wtS c (scS k xS)) = scS k xS := by
  funext j
  show b * (k * xS j * pwQ c j) = k * xS j
  by_cases z : j = 1
  · rw [z]
    show b * (k * 1 * (1 * c)) = k * 1
    grind
  · rw [show xS j = 0 from if_neg z]
    grind
theorem lo_gm {c b : Rat} {os : List Rat} {n : Nat} (l : LdQ c b) (h : ∀ r ∈ os, NumQ r) : Gm 360 16 (scS b (wtS c (serS (1 :: os)))) n := by
  have e := l.e
  refine ⟨by show b * (0 * _) = 0; rw [Rat.zero_mul, Rat.mul_zero], fun k hk => ?_⟩
  match k with
  | 0 =>
    have e1 : scS b (wtS c (serS (1 :: os))) (0 + 1) = 1 := by
      show b * (1 * (1 * c)) = 1
      grind
    rw [e1]
    exact Dq.one (show 1 < 2 ^ 1 by decide)
  | k + 1 =>
    have z : Dq 60 10 (serS (1 :: os) (k + 1 + 1)) := by
      rw [serS_at]
      show Dq _ _ (os.getD k 0)
      rw [List.getD_eq_getElem?_getD]
      cases x : os[k]? with
      | none => exact Dq.zero
      | some q => exact (h q (List.mem_of_getElem? x)).dq
    have e1 : scS b (wtS c (serS (1 :: os))) (k + 1 + 1) = serS (1 :: os) (k + 1 + 1) * pwQ c (k + 1) := by
      show b * (serS (1 :: os) (k + 1 + 1) * (pwQ c (k + 1) * c)) = _
      grind
    rw [e1]
    refine ((z.mul (pw_dq l.a (k + 1))).up (M := 360 ^ (k + 1)) (C := 6 * k) (60 ^ k) ?_ ?_).mono (by omega)
    · rw [show (360 : Nat) = 60 * 6 from rfl, Nat.mul_pow, Nat.pow_succ 60 k]
      simp only [Nat.mul_comm, Nat.mul_left_comm, Nat.mul_assoc]
    · rw [Nat.pow_mul]
      exact Nat.pow_le_pow_left (by decide) k
theorem sc_gm1 {D m n : Nat} {f : Ser} (g : Gm D m f n) : Gm D m (scS (-1) f) n := ⟨by show -1 * f 0 = 0; rw [g.z, Rat.mul_zero], fun k hk => by
  have e : scS (-1) f (k + 1) = -f (k + 1) := by
    show -1 * f (k + 1) = _
    grind
  rw [e]
  exact (g.g k hk).neg⟩
/-- the same, its letters with the lead 1 -/
structure Rn (c b : Rat) (rs : List Rat) (ht : Ser) (N : Nat) : Prop where
  l : LdQ c b
  e : serS (c :: rs) = scS c ht
  e' : ht = scS b (serS (c :: rs))
  g : Gm 120 20 ht N
  h1 : ht 1 = 1
  n1 : ht 1 ≠ 0
  c0 : c ≠ 0
theorem rn_mk {c b : Rat} {rs : List Rat} {N : Nat} (l : LdQ c b) (h : ∀ r ∈ rs, NumQ r) : ∃ ht, Rn c b rs ht N := by
  have o : scS b (serS (c :: rs)) 1 = 1 := by
    show b * c = 1
    rw [Rat.mul_comm]
    exact l.e
  refine ⟨scS b (serS (c :: rs)), l, (sc_sc l.e _).symm, rfl, rn_gm l h, o, by rw [o]; decide, fun z => ?_⟩
  have := l.e
  rw [z, Rat.zero_mul] at this
  exact absurd this (by decide)
section
variable {c b : Rat} {rs : List Rat} {ht : Ser} {N : Nat}
theorem Rn.cj (r : Rn c b rs ht N) (o : Ser) : cjS (serS (c :: rs)) o = cjS ht (scS b (wtS c o)) := by rw [r.e, cj_low r.l.e r.g.z r.n1]
theorem Rn.lin (r : Rn c b rs ht N) (k : Rat) : cjS (serS (c :: rs)) (scS k xS) = cjS ht (scS k xS) := by rw [r.cj, lo_lin r.l.e]
theorem Rn.up (r : Rn c b rs ht N) : Gm 360 22 ht N := (r.g.lift (q := 3) (a := 2) (by decide))
theorem Rn.inv (r : Rn c b rs ht N) (n7 : N ≤ 7) : Gm 360 82 (invS ht) N := (r.up.inv r.h1 (by omega))
theorem Rn.h0 (r : Rn c b rs ht N) : serS (c :: rs) 0 = 0 := rfl
theorem Rn.hn (r : Rn c b rs ht N) : serS (c :: rs) 1 ≠ 0 := r.c0
theorem Rn.gs (r : Rn c b rs ht N) (n7 : N ≤ 7) : Gm 360 97 (cjS (serS (c :: rs)) (scS (-1) xS)) N := by
  rw [r.lin]
  unfold cjS
  rw [sc_x _ r.g.z]
  exact (r.inv n7).cmp ((sc_gm1 r.up).mono (by decide)) (by omega)
theorem Rn.gu (r : Rn c b rs ht N) (n7 : N ≤ 7) {os : List Rat} (h : ∀ q ∈ os, NumQ q) : Gm 360 97 (cjS (serS (c :: rs)) (serS (1 :: os))) N := by
  rw [r.cj]
  have a : Gm 360 37 (cmpS (scS b (wtS c (serS (1 :: os)))) ht) N := ((lo_gm r.l h).mono (show 16 ≤ 22 by decide)).cmp r.up (by omega)
  exact (r.inv n7).cmp (a.mono (by decide)) (by omega)
/-- a stretch -/
theorem cs_gm (r : Rn c b rs ht N) (n7 : N ≤ 7) {k kb : Rat} {E : Nat} (l : LdS k kb E) : ∃ ft, cjS (serS (c :: rs)) (scS k xS) = scS k ft ∧ Gm 720 105 ft N ∧ ft 1 = 1 := by
  have ek : k * kb = 1 := l.e
  obtain ⟨i, ei⟩ : ∃ i, i = invS ht := ⟨_, rfl⟩
  have gi : Gm 120 80 i N := by rw [ei]; exact r.g.inv r.h1 (by omega)
  have i1 : i 1 = 1 := by
    have := inv_one r.g.z r.n1
    rw [r.h1, Rat.mul_one] at this
    rw [ei]
    exact this
  have e1 : cmpS i (scS k ht) = cmpS (wtS k i) ht := by
    have := wt_sc ek (wtS k i) ht
    rw [wt_wt ek] at this
    exact this
  have gj : Gm 720 90 (scS kb (wtS k i)) N := by
    refine ⟨by show kb * (i 0 * _) = 0; rw [gi.z, Rat.zero_mul, Rat.mul_zero], fun j hj => ?_⟩
    have e2 : scS kb (wtS k i) (j + 1) = i (j + 1) * pwQ k j := by
      show kb * (i (j + 1) * (pwQ k j * k)) = _
      grind
    rw [e2]
    match j, hj with
    | 0, _ =>
      rw [i1]
      show Dq _ _ (1 * 1)
      rw [Rat.mul_one]
      exact Dq.one (show 1 < 2 ^ 1 by decide)
    | j + 1, hj =>
      have z := (gi.g (j + 1) hj).mul (pw_dq l.a (j + 1))
      rw [← Nat.mul_pow, show 120 * 6 = 720 from rfl] at z
      exact z.mono (by omega)
  have hl : Gm 720 90 ht N := by
    have z := r.g.lift (q := 6) (a := 3) (by decide)
    rw [show 120 * 6 = 720 from rfl] at z
    exact z.mono (by decide)
  refine ⟨cmpS (scS kb (wtS k i)) ht, ?_, gj.cmp hl (by omega), ?_⟩
  · rw [r.lin]
    unfold cjS
    rw [sc_x _ r.g.z, ← ei, e1, cmp_sc, sc_sc ek]
  · rw [cmp_at1 (show scS kb (wtS k i) 0 = 0 from gj.z), r.h1]
    show kb * (i 1 * (1 * k)) * 1 = 1
    rw [i1]
    grind
end
theorem ld_mt : LdS (mkRat (-1) 3) (-3) 444080 := ldB_ok (by decide +kernel)
end Kx
end
section
set_option maxHeartbeats 4000000
namespace Kx
open PySem PySem.Spec PyProof.Rows L2 RZ
/-! ### sizes by the place: the number at k is whole over E ^ k -/
structure Gw (E m : Nat) (F : Ser) (n : Nat) : Prop where
  z : F 0 = 0
  g : ∀ k, 1 ≤ k → k ≤ n → Dq (E ^ k) (m * k) (F k)
theorem Gw.mono {E m m' n : Nat} {F : Ser} (h : Gw E m F n) (l : m ≤ m') : Gw E m' F n := ⟨h.z, fun k a b => (h.g k a b).mono (Nat.mul_le_mul_right k l)⟩
theorem Gw.lift {E m n a q : Nat} {F : Ser} (h : Gw E m F n) (hq : q ≤ 2 ^ a) : Gw (E * q) (m + a) F n := ⟨h.z, fun k k1 hk => by
  refine ((h.g k k1 hk).up (M := (E * q) ^ k) (C := a * k) (q ^ k) (Nat.mul_pow _ _ _) ?_).mono (by rw [Nat.add_mul]; omega)
  rw [Nat.pow_mul]
  exact Nat.pow_le_pow_left hq k⟩
theorem Gw.of {D m n a : Nat} {F : Ser} (h : Gm D m F n) (hq : D ≤ 2 ^ a) : Gw D (m + 1 + a) F n := ⟨h.z, fun k k1 hk => by
  obtain ⟨j, rfl⟩ : ∃ j, k = j + 1 := ⟨k - 1, by omega⟩
  refine ((h.g j (by omega)).up (M := D ^ (j + 1)) (C := a) D (Nat.pow_succ _ _) hq).mono ?_
  have h1 : (m + 1 + a) * (j + 1) = m * j + j + a * j + (m + 1 + a) := by rw [Nat.mul_succ, Nat.add_mul, Nat.add_mul, Nat.one_mul]
  omega⟩
theorem Gw.pow {E m n : Nat} {F : Ser} (h : Gw E m F n) (n16 : n ≤ 15) : ∀ j k, k ≤ n → Dq (E ^ k) (m * k + 5 * (j + 1)) (powS F (j + 1) k)
  | 0, k, hk => by
    rw [powS_one]
    rcases Nat.eq_zero_or_pos k with c | c
    · rw [c, h.z]; exact Dq.zero
    · exact (h.g k c hk).mono (by omega)
  | j + 1, k, hk => by
    show Dq _ _ (sumN (fun i => powS F (j + 1) i * F (k - i)) (k + 1))
    refine (dq_sum (B := m * k + (5 * (j + 1) + 1)) (c := 4) _ (fun i hi => ?_) (by omega)).mono (by omega)
    rcases Nat.lt_or_ge i k with d | d
    · have a := Gw.pow h n16 j i (by omega)
      have b := h.g (k - i) (by omega) (by omega)
      have ab := a.mul b
      rw [← Nat.pow_add, show i + (k - i) = k by omega] at ab
      refine ab.mono ?_
      have : m * i + m * (k - i) = m * k := by rw [← Nat.mul_add, show i + (k - i) = k by omega]
      omega
    · rw [show k - i = 0 by omega, h.z, Rat.mul_zero]
      exact Dq.zero
theorem Gw.cmp {E1 E2 m1 m2 n : Nat} {u F : Ser} (hu : Gw E1 m1 u n) (h : Gw E2 m2 F n) (n16 : n ≤ 15) (e0 : 0 < E1) (a : Nat) (ea : E1 ≤ 2 ^ a) : Gw (E1 * E2) (m1 + m2 + a + 10) (cmpS u F) n := by
  refine ⟨by rw [cmpS_zero, hu.z], fun k k1 hk => ?_⟩
  show Dq _ _ (sumN (fun j => u j * powS F j k) (k + 1))
  refine (dq_sum (B := (m1 + m2 + a + 5) * k) (c := 4) _ (fun j hj => ?_) (by omega)).mono (by rw [show m1 + m2 + a + 10 = m1 + m2 + a + 5 + 5 by omega, Nat.add_mul (m1 + m2 + a + 5) 5 k]; omega)
  rcases Nat.eq_zero_or_pos j with c | c
  · rw [c, hu.z, Rat.zero_mul]; exact Dq.zero
  obtain ⟨i, rfl⟩ : ∃ i, j = i + 1 := ⟨j - 1, by omega⟩
  have x := hu.g (i + 1) (by omega) (by omega)
  have y := h.pow n16 i k hk
  refine ((x.mul y).up (M := (E1 * E2) ^ k) (C := a * k) (E1 ^ (k - (i + 1))) ?_ ?_).mono ?_
  · rw [Nat.mul_pow, Nat.mul_comm (E1 ^ (i + 1) * E2 ^ k), ← Nat.mul_assoc, ← Nat.pow_add, show k - (i + 1) + (i + 1) = k by omega]
  · refine Nat.le_trans (Nat.pow_le_pow_left ea _) ?_
    rw [← Nat.pow_mul]
    exact Nat.pow_le_pow_right (by decide) (Nat.mul_le_mul_left a (by omega))
  · have h1 : (m1 + m2 + a + 5) * k = m1 * k + m2 * k + a * k + 5 * k := by rw [Nat.add_mul, Nat.add_mul, Nat.add_mul]
    have h2 : m1 * (i + 1) ≤ m1 * k := Nat.mul_le_mul_left _ (by omega)
    omega
/-- a number put at a place -/
theorem dq_at {E a k : Nat} {q : Rat} (h : Dq 60 10 q) (k1 : 1 ≤ k) (e0 : 0 < E) (ea : E ≤ 2 ^ a) : Dq ((E * 60) ^ k) ((a + 16) * k) q := by
  obtain ⟨j, rfl⟩ : ∃ j, k = j + 1 := ⟨k - 1, by omega⟩
  refine (h.up (M := (E * 60) ^ (j + 1)) (C := (a + 6) * (j + 1)) (E * (E * 60) ^ j) (by rw [Nat.pow_succ, Nat.mul_comm ((E * 60) ^ j), Nat.mul_comm E 60, Nat.mul_assoc]) ?_).mono ?_
  · have h1 : E * 60 ≤ 2 ^ (a + 6) := by
      rw [Nat.pow_add]
      exact Nat.mul_le_mul ea (by decide)
    have h2 := Nat.pow_le_pow_left h1 (j + 1)
    rw [← Nat.pow_mul, Nat.pow_succ] at h2
    refine Nat.le_trans ?_ h2
    rw [Nat.mul_comm ((E * 60) ^ j)]
    exact Nat.mul_le_mul_right _ (Nat.le_mul_of_pos_right _ (by decide))
  · rw [show a + 16 = a + 6 + 10 by omega, Nat.add_mul (a + 6) 10 (j + 1)]
    omega
theorem Gw.set {E m n a i : Nat} {F : Ser} {q : Rat} (h : Gw E m F n) (e0 : 0 < E) (ea : E ≤ 2 ^ a) (hq : Dq 60 10 q) (i1 : 1 ≤ i) : Gw (E * 60) (m + a + 16) (fun k => if k = i then q else F k) n := ⟨by
  show (if 0 = i then q else F 0) = 0
  rw [if_neg (by omega)]
  exact h.z, fun k k1 hk => by
  show Dq _ _ (if k = i then q else F k)
  by_cases c : k = i
  · rw [if_pos c]
    exact (dq_at hq k1 e0 ea).mono (Nat.mul_le_mul_right k (by omega))
  · rw [if_neg c]
    exact ((h.lift (q := 60) (a := 6) (by decide)).g k k1 hk).mono (Nat.mul_le_mul_right k (by omega))⟩
theorem Gw.add {E m n a i : Nat} {F : Ser} {q : Rat} (h : Gw E m F n) (e0 : 0 < E) (ea : E ≤ 2 ^ a) (hq : Dq 60 10 q) (i1 : 1 ≤ i) : Gw (E * 60) (m + a + 17) (fun k => if k = i then F k + q else F k) n := ⟨by
  show (if 0 = i then F 0 + q else F 0) = 0
  rw [if_neg (by omega)]
  exact h.z, fun k k1 hk => by
  show Dq _ _ (if k = i then F k + q else F k)
  have x := (h.lift (q := 60) (a := 6) (by decide)).g k k1 hk
  have y := dq_at (E := E) (a := a) hq k1 e0 ea
  by_cases c : k = i
  · rw [if_pos c]
    refine Dq.add (x.mono (C := (m + a + 16) * k) (Nat.mul_le_mul_right k (by omega))) (y.mono (C := (m + a + 16) * k) (Nat.mul_le_mul_right k (by omega))) ?_ ?_ <;> (rw [show m + a + 17 = m + a + 16 + 1 by omega, Nat.add_mul (m + a + 16) 1 k]; omega)
  · rw [if_neg c]
    exact x.mono (Nat.mul_le_mul_right k (by omega))⟩
theorem Gw.cg {E m n : Nat} {F G : Ser} (h : Gw E m F n) (e : EqTo (n + 1) G F) : Gw E m G n := ⟨by rw [e 0 (by omega)]; exact h.z, fun k k1 hk => by rw [e k (by omega)]; exact h.g k k1 hk⟩
theorem Gw.cut {E m n n' : Nat} {F : Ser} (h : Gw E m F n) (l : n' ≤ n) : Gw E m F n' := ⟨h.z, fun k k1 hk => h.g k k1 (by omega)⟩
/-- all powers over one lower part -/
theorem Gw.gl {E m n a : Nat} {F : Ser} (h : Gw E m F n) (n8 : n ≤ 8) (e0 : 0 < E) (ea : E ≤ 2 ^ a) : Gl (E ^ n) (m * n + a * n + 50) F n := fun j k j1 hk => by
  obtain ⟨i, rfl⟩ : ∃ i, j = i + 1 := ⟨j - 1, by omega⟩
  rcases Nat.lt_or_ge n (i + 1) with c | c
  · rw [powS_low h.z (i + 1) k (by omega)]
    exact Dq.zero
  refine ((h.pow (by omega) i k hk).up (M := E ^ n) (C := a * n) (E ^ (n - k)) (by rw [← Nat.pow_add, show k + (n - k) = n by omega]) ?_).mono ?_
  · refine Nat.le_trans (Nat.pow_le_pow_left ea _) ?_
    rw [← Nat.pow_mul]
    exact Nat.pow_le_pow_right (by decide) (Nat.mul_le_mul_left a (by omega))
  · have h2 : m * k ≤ m * n := Nat.mul_le_mul_left _ hk
    omega
/-- a list that has been spoilt j times -/
def szA : Nat → Nat | 0 => 13 | 1 => 38 | _ => 88
def szB : Nat → Nat | 0 => 200 | 1 => 560 | _ => 1380
def Sz (j : Nat) (qs : List Rat) : Prop := ∃ E m, 0 < E ∧ E ≤ 2 ^ szA j ∧ m ≤ szB j ∧ Gw E m (serS qs) qs.length
theorem Sz.up {qs : List Rat} {i j : Nat} (h : Sz i qs) (hA : szA i ≤ szA j) (hB : szB i ≤ szB j) : Sz j qs := by
  obtain ⟨E, m, e0, ea, mb, g⟩ := h
  exact ⟨E, m, e0, Nat.le_trans ea (Nat.pow_le_pow_right (by decide) hA), by omega, g⟩
theorem Sz.u01 {qs : List Rat} (h : Sz 0 qs) : Sz 1 qs := h.up (by decide) (by decide)
theorem Sz.u12 {qs : List Rat} (h : Sz 1 qs) : Sz 2 qs := h.up (by decide) (by decide)
theorem Sz.gl {qs : List Rat} {j : Nat} (h : Sz j qs) (l : qs.length ≤ 8) : ∃ M, 0 < M ∧ M < 2 ^ 705 ∧ Gl M 12000 (serS qs) qs.length := by
  obtain ⟨E, m, e0, ea, mb, g⟩ := h
  have a88 : szA j ≤ 88 := by
    unfold szA
    split <;> omega
  have b13 : szB j ≤ 1380 := by
    unfold szB
    split <;> omega
  have ea' : E ≤ 2 ^ 88 := Nat.le_trans ea (Nat.pow_le_pow_right (by decide) a88)
  refine ⟨E ^ qs.length, Nat.pow_pos e0, ?_, (g.gl l e0 ea').mono ?_⟩
  · refine Nat.lt_of_le_of_lt (Nat.pow_le_pow_left ea' _) ?_
    rw [← Nat.pow_mul]
    exact Nat.pow_lt_pow_right (by decide) (by omega)
  · have : m * qs.length ≤ 1380 * 8 := Nat.mul_le_mul (by omega) l
    omega
theorem sm705 {M : Nat} (h : M < 2 ^ 705) (m0 : 0 < M) : SmL M := ⟨m0, Nat.lt_of_lt_of_le h (Nat.pow_le_pow_right (by decide) (by decide))⟩
theorem Sz.all {qs : List Rat} {j : Nat} (h : Sz j qs) (l : qs.length ≤ 8) : AllO qs := by
  obtain ⟨M, m0, m, g⟩ := h.gl l
  exact (g.all rfl fun _ _ => rfl).ok (sm705 m m0) (by decide)
theorem Sz.pu {us fs : List Rat} {i j : Nat} (hu : Sz i us) (hf : Sz j fs) (lu : us.length ≤ 8) (lf : fs.length ≤ 8) : PuOk us fs := by
  obtain ⟨L, l0, l, gl⟩ := hu.gl lu
  obtain ⟨M, m0, m, gm⟩ := hf.gl lf
  refine ⟨L, 12000, M, 12000, sm705 l l0, by decide, sm705 m m0, by decide, ?_, gl.all rfl fun _ _ => rfl, gm.all rfl fun _ _ => rfl⟩
  have h1 : M ^ (us.length + 1) ≤ (2 ^ 705) ^ (us.length + 1) := Nat.pow_le_pow_left (Nat.le_of_lt m) _
  rw [← Nat.pow_mul] at h1
  have h2 := Nat.mul_lt_mul_of_lt_of_le l h1 (Nat.pow_pos (by decide))
  rw [← Nat.pow_add] at h2
  exact Nat.lt_of_lt_of_le h2 (Nat.pow_le_pow_right (by decide) (by omega))
theorem Sz.mu {us fs : List Rat} {i j : Nat} (hu : Sz i us) (hf : Sz j fs) (lu : us.length ≤ 8) (lf : fs.length ≤ 8) : MulOk us fs := by
  obtain ⟨L, l0, l, gl⟩ := hu.gl lu
  obtain ⟨M, m0, m, gm⟩ := hf.gl lf
  exact ⟨L, 12000, M, 12000, sm705 l l0, by decide, sm705 m m0, by decide, gl.all rfl fun _ _ => rfl, gm.pow rfl fun _ _ => rfl⟩
end Kx
end
section
set_option maxHeartbeats 4000000
namespace Kx
open PySem PySem.Spec PyProof.Rows L2 RZ
/-! ### a right paper -/
theorem stL_T {N : Nat} (h : 1 ≤ N) : stL N = toT N xS := by
  have e := toT_serS (stL N)
  rw [stL_len h] at e
  rw [← e, stL_eq h]
theorem cmp_T {f g : Ser} {N : Nat} (f0 : f 0 = 0) (g0 : g 0 = 0) : cmpL (toT N f) (toT N g) = toT N (cmpS f g) := cmpL_eq (toT_len _ _) (serS_toT f0) (serS_toT g0)
theorem x_L {n : Nat} (h : 1 ≤ n) : xL n = toL (n + 1) xS := by
  show 0 :: stL n = _
  rw [stL_T h]
  exact toT0 rfl
theorem map_L (F : Ser) (h : Rat → Rat) (n : Nat) : (toL n F).map h = toL n (fun k => h (F k)) := by
  unfold toL
  rw [List.map_map]
  rfl
theorem zip_L (f g : Ser) (op : Rat → Rat → Rat) (n : Nat) : (toL n f).zipWith op (toL n g) = toL n (fun k => op (f k) (g k)) := by
  unfold toL
  rw [List.zipWith_map_left, List.zipWith_map_right, List.zipWith_self]
theorem sc_L {n : Nat} {c : Rat} (h : 1 ≤ n) : (0 :: c :: List.replicate (n - 1) 0 : List Rat) = toL (n + 1) (scS c xS) := by
  have e : toL (n + 1) (scS c xS) = (toL (n + 1) xS).map (c * ·) := (map_L xS (c * ·) (n + 1)).symm
  rw [e, ← x_L h]
  show _ = (c * 0) :: (c * 1) :: (List.replicate (n - 1) (0 : Rat)).map (c * ·)
  rw [List.map_replicate, Rat.mul_zero, Rat.mul_one]
theorem map_T (f : Ser) (h : Rat → Rat) (N : Nat) : (toT N f).map h = toT N (fun k => h (f k)) := by
  unfold toT
  rw [List.map_map]
  rfl
theorem wrg_none {f s u h : Ser} {N : Nat} (n2 : 2 ≤ N) (s0 : s 0 = 0) (u0 : u 0 = 0) (h0 : h 0 = 0) (u1 : u 1 = 1) (h1 : h 1 ≠ 0) (e1 : EqTo (N + 1) (cmpS s u) f) (e2 : EqTo (N + 1) (cmpS u s) f) (e3 : EqTo (N + 1) (cmpS h s) (scS (s 1) h)) : wrgD (toT N f) (toT N s) (toT N u) (toT N h) = none := by
  unfold wrgD
  have un : ∀ (c : Int) (qs : List Rat), unqD c qs qs = none := fun c qs => by
    unfold unqD
    rw [difN_same qs qs 0 rfl]
    rfl
  rw [if_neg (by simp only [toT_len, and_self, not_true_eq_false, not_false_eq_true]), serS_toT u0 1 (by omega), if_neg (by rw [u1]; exact fun z => z rfl), serS_toT h0 1 (by omega), if_neg h1]
  have a1 : cmpL (toT N s) (toT N u) = toT N f := by rw [cmp_T s0 u0, toT_eq e1]
  have a2 : cmpL (toT N u) (toT N s) = toT N f := by rw [cmp_T u0 s0, toT_eq e2]
  have a3 : cmpL (toT N h) (toT N s) = cmpL (scL (toT N f).length (serS (toT N s) 1)) (toT N h) := by
    rw [cmp_T h0 s0, toT_len, scL_cmp (by omega) _ (toT_len _ _), serS_toT s0 1 (by omega), toT_eq e3, map_T]
    exact toT_eq fun k _ => Rat.mul_comm _ _
  rw [a1, a2, a3, un, un, un]
  rfl
structure Pp (f s u h : Ser) (N : Nat) : Prop where
  w : wrgD (toT N f) (toT N s) (toT N u) (toT N h) = none
  f0 : f 0 = 0
  s0 : s 0 = 0
  u0 : u 0 = 0
  h0 : h 0 = 0
  zf : Sz 0 (toT N f)
  zs : Sz 0 (toT N s)
  zu : Sz 0 (toT N u)
  zh : Sz 0 (toT N h)
theorem sz_of {E m N : Nat} {F : Ser} (g : Gw E m F N) (e0 : 0 < E) (ea : E ≤ 2 ^ 13) (mb : m ≤ 200) : Sz 0 (toT N F) := ⟨E, m, e0, ea, mb, by rw [toT_len]; exact g.cg (serS_toT g.z)⟩
theorem gw_x {N : Nat} : Gw 1 1 xS N := ⟨rfl, fun k k1 _ => by
  by_cases c : k = 1
  · rw [c]; exact Dq.one (by decide)
  · rw [show xS k = 0 from if_neg c]; exact Dq.zero⟩
theorem gw_0 {N : Nat} : Gw 1 1 (fun _ => 0) N := ⟨rfl, fun k k1 _ => Dq.zero⟩
/-- numbers of a drawn renamer -/
theorem rn_dq {c b : Rat} {rs : List Rat} (l : LdQ c b) (h : ∀ r ∈ rs, NumQ r) (k : Nat) : Dq 60 10 (serS (c :: rs) k) := by
  match k with
  | 0 => exact Dq.zero
  | 1 => exact ((l.a.up (M := 60) (C := 4) 10 rfl (by decide)).mono (by decide))
  | k + 2 =>
    show Dq _ _ (rs.getD k 0)
    rw [List.getD_eq_getElem?_getD]
    cases x : rs[k]? with
    | none => exact Dq.zero
    | some q => exact (h q (List.mem_of_getElem? x)).dq
theorem rn_gw {c b : Rat} {rs : List Rat} {N : Nat} (l : LdQ c b) (h : ∀ r ∈ rs, NumQ r) : Gw 60 20 (serS (c :: rs)) N := ⟨rfl, fun k k1 _ => by
  obtain ⟨j, rfl⟩ : ∃ j, k = j + 1 := ⟨k - 1, by omega⟩
  refine ((rn_dq l h (j + 1)).up (M := 60 ^ (j + 1)) (C := 6 * j) (60 ^ j) (by rw [Nat.pow_succ, Nat.mul_comm]) ?_).mono (by omega)
  rw [Nat.pow_mul]
  exact Nat.pow_le_pow_left (by decide) j⟩
theorem rq_gw {c b q : Rat} {rs : List Rat} {N : Nat} (l : LdQ c b) (h : ∀ r ∈ rs, NumQ r) (hq : NumQ q) : Gw 3600 40 (scS q (serS (c :: rs))) N := ⟨by show q * 0 = 0; rw [Rat.mul_zero], fun k k1 _ => by
  obtain ⟨j, rfl⟩ : ∃ j, k = j + 1 := ⟨k - 1, by omega⟩
  refine ((hq.dq.mul (rn_dq l h (j + 1))).up (M := 3600 ^ (j + 1)) (C := 12 * j) (3600 ^ j) (by rw [Nat.pow_succ, Nat.mul_comm]) ?_).mono (by omega)
  rw [Nat.pow_mul]
  exact Nat.pow_le_pow_left (by decide) j⟩
theorem sl_gw {rs : List Rat} {d N : Nat} (d0 : 0 < d) (d9 : d ≤ 99) (tl : ∀ r ∈ rs, TlQ d r) : Gw (60 * d) 64 (serS (1 :: rs)) N := Gw.of (a := 13) (gm_tl d0 d9 tl) (by show _ ≤ 8192; omega)
/-- a scaled one -/
theorem sc_gw {D m N : Nat} {F : Ser} {k : Rat} (g : Gm D m F N) (hk : Dq 6 5 k) (a : Nat) (ha : D ≤ 2 ^ a) : Gw (D * 6) (m + a + 10) (scS k F) N := ⟨by show k * F 0 = 0; rw [g.z, Rat.mul_zero], fun j j1 hj => by
  obtain ⟨i, rfl⟩ : ∃ i, j = i + 1 := ⟨j - 1, by omega⟩
  have x := hk.mul (g.g i (by omega))
  refine (x.up (M := (D * 6) ^ (i + 1)) (C := a + 3 * i) (D * 6 ^ i) ?_ ?_).mono ?_
  · rw [Nat.mul_pow, Nat.pow_succ D i, Nat.pow_succ 6 i]
    simp only [Nat.mul_comm, Nat.mul_left_comm, Nat.mul_assoc]
  · rw [Nat.pow_add]
    refine Nat.mul_le_mul ha ?_
    rw [Nat.pow_mul]
    exact Nat.pow_le_pow_left (by decide) i
  · have h1 : (m + a + 10) * (i + 1) = m * i + a * i + 10 * i + (m + a + 10) := by rw [Nat.mul_succ, Nat.add_mul, Nat.add_mul]
    omega⟩
theorem flH_cmp' {s : Ser} (s0 : s 0 = 0) (e : cmpS s s = xS) : cmpS (flH s) s = scS (-1) (flH s) := flH_cmp s0 e
theorem pp_0 {c b : Rat} {rs ts : List Rat} {d N : Nat} (n2 : 2 ≤ N) (l : LdQ c b) (nq : ∀ r ∈ rs, NumQ r) (d0 : 0 < d) (d9 : d ≤ 99) (tl : ∀ r ∈ ts, TlQ d r) : Pp (fun _ => 0) (fun _ => 0) (serS (1 :: ts)) (serS (c :: rs)) N := by
  have c0 : c ≠ 0 := fun z => by have := l.e; rw [z, Rat.zero_mul] at this; exact absurd this (by decide)
  have z1 : ∀ u : Ser, cmpS (fun _ => 0) u = fun _ => 0 := fun u => funext fun k => sum_zero fun j _ => Rat.zero_mul _
  have z2 : ∀ u : Ser, u 0 = 0 → cmpS u (fun _ => 0) = fun _ => 0 := fun u u0 => funext fun k => sum_zero fun j _ => by
    match j with
    | 0 => rw [u0, Rat.zero_mul]
    | j + 1 =>
      have : powS (fun _ => (0 : Rat)) (j + 1) k = 0 := sum_zero fun i _ => Rat.mul_zero _
      rw [this, Rat.mul_zero]
  refine ⟨wrg_none n2 rfl rfl rfl rfl c0 (fun k _ => by rw [z1]) (fun k _ => by rw [z2 _ rfl]) (fun k _ => ?_), rfl, rfl, rfl, rfl, sz_of gw_0 (by decide) (by decide) (by decide), sz_of gw_0 (by decide) (by decide) (by decide), sz_of (sl_gw d0 d9 tl) (by omega) (by show _ ≤ 8192; omega) (by decide), sz_of (rn_gw l nq) (by decide) (by decide) (by decide)⟩
  rw [z2 _ rfl]
  show (0 : Rat) = 0 * _
  rw [Rat.zero_mul]
theorem pp_1 {c b : Rat} {rs ts : List Rat} {d N : Nat} (n2 : 2 ≤ N) (l : LdQ c b) (nq : ∀ r ∈ rs, NumQ r) (d0 : 0 < d) (d9 : d ≤ 99) (tl : ∀ r ∈ ts, TlQ d r) : Pp (serS (1 :: ts)) xS (serS (1 :: ts)) (serS (c :: rs)) N := by
  have c0 : c ≠ 0 := fun z => by have := l.e; rw [z, Rat.zero_mul] at this; exact absurd this (by decide)
  have zu := sz_of (N := N) (sl_gw d0 d9 tl) (by omega) (by show _ ≤ 8192; omega) (by decide)
  refine ⟨wrg_none n2 rfl rfl rfl rfl c0 (fun k _ => by rw [xl0 rfl]) (fun k _ => by rw [cmpS_xr]) (fun k _ => ?_), rfl, rfl, rfl, rfl, zu, sz_of gw_x (by decide) (by decide) (by decide), zu, sz_of (rn_gw l nq) (by decide) (by decide) (by decide)⟩
  rw [cmpS_xr]
  show _ = 1 * _
  rw [Rat.one_mul]
theorem lead_gq {g s : Ser} {q k : Rat} (g0 : g 0 = 0) (g1 : g 1 ≠ 0) (es : s = cjS g (scS k xS)) : cmpS (scS q g) s = scS (s 1) (scS q g) := by
  have s1 : s 1 = k := by rw [es, cj_one g0 g1 (scx0 _), scx1]
  rw [s1, cmp_sc, es, cj_led g0 g1 (scx0 _), sc_x _ g0]
  funext j
  show q * (k * g j) = k * (q * g j)
  grind
theorem pp_s {c b q : Rat} {rs : List Rat} {N : Nat} {k kb : Rat} {E : Nat} (n2 : 2 ≤ N) (n7 : N ≤ 7) (l : LdQ c b) (nq : ∀ r ∈ rs, NumQ r) (lk : LdS k kb E) (hq : NumQ q) (q0 : q ≠ 0) : Pp (cjS (serS (c :: rs)) (scS k xS)) (cjS (serS (c :: rs)) (scS k xS)) xS (scS q (serS (c :: rs))) N := by
  obtain ⟨ht, r⟩ := rn_mk (N := N) l nq
  obtain ⟨ft, ef, g, o⟩ := cs_gm r n7 lk
  have zs : Sz 0 (toT N (cjS (serS (c :: rs)) (scS k xS))) := by
    rw [ef]
    exact sz_of (sc_gw g lk.a 10 (by decide)) (by decide) (by decide) (by decide)
  have s0 : cjS (serS (c :: rs)) (scS k xS) 0 = 0 := cj_0
  have q1 : scS q (serS (c :: rs)) 1 ≠ 0 := rat_ne q0 r.c0
  refine ⟨wrg_none n2 s0 rfl (by show q * 0 = 0; rw [Rat.mul_zero]) rfl q1 (fun k _ => by rw [cmpS_xr]) (fun k _ => by rw [xl0 s0]) (fun j _ => by rw [lead_gq r.h0 r.hn rfl]), s0, s0, rfl, by show q * 0 = 0; rw [Rat.mul_zero], zs, zs, sz_of gw_x (by decide) (by decide) (by decide), sz_of (rq_gw l nq hq) (by decide) (by decide) (by decide)⟩
theorem flH_gm {E m N : Nat} {s : Ser} (g : Gm E m s N) (s1 : s 1 = -1) : Gm (E * 2) (m + 2) (flH s) N := by
  refine ⟨by show (xS 0 - s 0) * hfq = 0; rw [g.z]; decide +kernel, fun k hk => ?_⟩
  match k, hk with
  | 0, _ =>
    have e : flH s (0 + 1) = 1 := by
      show (xS 1 - s 1) * hfq = 1
      rw [s1]
      decide +kernel
    rw [e]
    exact Dq.one (show 1 < 2 ^ _ from Nat.one_lt_two_pow (by omega))
  | k + 1, hk =>
    have e : flH s (k + 1 + 1) = -s (k + 1 + 1) * hfq := by
      show (xS (k + 1 + 1) - s (k + 1 + 1)) * hfq = _
      rw [show xS (k + 1 + 1) = 0 from if_neg (by omega)]
      grind
    have h2 : Dq 2 1 hfq := ⟨1, by decide +kernel, by decide⟩
    rw [e]
    refine (((g.g (k + 1) hk).neg.mul h2).up (M := (E * 2) ^ (k + 1)) (C := k) (2 ^ k) ?_ (Nat.le_refl _)).mono (by rw [Nat.add_mul]; omega)
    rw [Nat.mul_pow, Nat.mul_assoc, Nat.pow_succ 2 k, Nat.mul_comm (2 ^ k) 2]
theorem pp_f {c b : Rat} {rs os : List Rat} {N : Nat} {h : Ser} (n2 : 2 ≤ N) (n7 : N ≤ 7) (l : LdQ c b) (nq : ∀ r ∈ rs, NumQ r) (no : ∀ r ∈ os, NumQ r) (od : ∀ k r, os[2 * k]? = some r → r = 0) (hh : h = flH (cjS (serS (c :: rs)) (scS (-1) xS)) ∨ ∃ q, NumQ q ∧ q ≠ 0 ∧ h = scS q (serS (c :: rs))) :
    Pp (cmpS (cjS (serS (c :: rs)) (scS (-1) xS)) (cjS (serS (c :: rs)) (serS (1 :: os)))) (cjS (serS (c :: rs)) (scS (-1) xS)) (cjS (serS (c :: rs)) (serS (1 :: os))) h N := by
  obtain ⟨ht, r⟩ := rn_mk (N := N) l nq
  have gs := r.gs n7
  have gu := r.gu n7 no
  have ho : OddS (serS (1 :: os)) := fun k => by
    match k with
    | 0 => rfl
    | k + 1 =>
      show os.getD (2 * k) 0 = 0
      rw [List.getD_eq_getElem?_getD]
      cases x : os[2 * k]? with
      | none => rfl
      | some q => exact od k q x
  have s0 : cjS (serS (c :: rs)) (scS (-1) xS) 0 = 0 := cj_0
  have u0 : cjS (serS (c :: rs)) (serS (1 :: os)) 0 = 0 := cj_0
  have s1 := cf_1 r.h0 r.hn
  have u1 : cjS (serS (c :: rs)) (serS (1 :: os)) 1 = 1 := cj_one r.h0 r.hn rfl
  have ss := cf_ss r.h0 r.hn
  have co := cf_co r.h0 r.hn ho
  have zh : h 0 = 0 ∧ h 1 ≠ 0 ∧ cmpS h (cjS (serS (c :: rs)) (scS (-1) xS)) = scS (cjS (serS (c :: rs)) (scS (-1) xS) 1) h ∧ Sz 0 (toT N h) := by
    rcases hh with rfl | ⟨q, hq, q0, rfl⟩
    · refine ⟨?_, ?_, by rw [flH_cmp s0 ss, s1], sz_of (Gw.of (a := 10) (flH_gm gs s1) (by decide)) (by decide) (by decide) (by decide)⟩
      · show (xS 0 - _) * hfq = 0
        rw [s0]
        decide +kernel
      · show (xS 1 - _) * hfq ≠ 0
        rw [s1]
        decide +kernel
    · exact ⟨by show q * 0 = 0; rw [Rat.mul_zero], rat_ne q0 r.c0, lead_gq r.h0 r.hn rfl, sz_of (rq_gw l nq hq) (by decide) (by decide) (by decide)⟩
  have gf : Gm 360 112 (cmpS (cjS (serS (c :: rs)) (scS (-1) xS)) (cjS (serS (c :: rs)) (serS (1 :: os)))) N := gs.cmp gu (by omega)
  exact ⟨wrg_none n2 s0 u0 zh.1 u1 zh.2.1 (fun _ _ => rfl) (fun k _ => by rw [co]) (fun k _ => by rw [zh.2.2.1]), cmpS0 s0, s0, u0, zh.1, sz_of (Gw.of (a := 9) gf (by decide)) (by decide) (by decide) (by decide), sz_of (Gw.of (a := 9) gs (by decide)) (by decide) (by decide) (by decide), sz_of (Gw.of (a := 9) gu (by decide)) (by decide) (by decide) (by decide), zh.2.2.2⟩
end Kx
end
section
set_option maxHeartbeats 4000000
namespace Kx
open PySem PySem.Spec PyProof.Rows L2 RZ
/-! ### a right paper as lists -/
def NumZ (q : Rat) : Prop := NumQ q ∧ q ≠ 0
structure QOk (j : Nat) (q : List Rat) : Prop where
  z : Sz j q
  lo : 2 ≤ q.length
  hi : q.length ≤ 6 + j
structure F4 (K : PySem.W.Frag) (H : Hp) (j : Nat) (a : Addr) (f s u h : List Rat) : Prop where
  ex : ∃ v1 v2 v3 v4, H a = some (.lst [v1, v2, v3, v4]) ∧ Ls K H v1 (0 :: f) ∧ Ls K H v2 (0 :: s) ∧ Ls K H v3 (0 :: u) ∧ Ls K H v4 (0 :: h)
  f : QOk j f
  s : QOk j s
  u : QOk j u
  h : QOk j h
def spPpr (K : PySem.W.Frag) : Sp := fun vs H Q _ => ∃ (n : Nat) (B p : Addr) (deg : Nat), vs = [.ref B, .int (deg : Nat)] ∧ Bag (n + 120) H B p ∧ 2 ≤ deg ∧ deg ≤ 6 ∧ ∀ H' a f s u h, Bag n H' B p → But B H H' → H' a ≠ none → F4 K H' 0 a f s u h → wrgD f s u h = none → Q (.ref a) H'
abbrev nPpr : List Str := ["_law_bag_here", "_law_deg", "_law_g", "_law_way", "_law_u", "_law_s", "_law_straight_y"]
theorem f4_of {K : PySem.W.Frag} {H : Hp} {a : Addr} {N : Nat} {v1 v2 v3 v4 : V} {f s u h : Ser} (n2 : 2 ≤ N) (n6 : N ≤ 6) (ha : H a = some (.lst [v1, v2, v3, v4])) (l1 : Ls K H v1 (toL (N + 1) f)) (l2 : Ls K H v2 (toL (N + 1) s)) (l3 : Ls K H v3 (toL (N + 1) u)) (l4 : Ls K H v4 (toL (N + 1) h)) (p : Pp f s u h N) : F4 K H 0 a (toT N f) (toT N s) (toT N u) (toT N h) := by
  have q : ∀ {g : Ser}, Sz 0 (toT N g) → QOk 0 (toT N g) := fun z => ⟨z, by rw [toT_len]; exact n2, by rw [toT_len]; exact n6⟩
  exact ⟨⟨v1, v2, v3, v4, ha, by rw [toT0 p.f0]; exact l1, by rw [toT0 p.s0]; exact l2, by rw [toT0 p.u0]; exact l3, by rw [toT0 p.h0]; exact l4⟩, q p.zf, q p.zs, q p.zu, q p.zh⟩
theorem al0 {L B : Nat} {qs : List Rat} (h : AllD L B qs) : AllD L B (0 :: qs) := fun q hq => by
  rcases List.mem_cons.mp hq with rfl | hq
  · exact Dq.zero
  · exact h q hq
theorem ao0 {qs : List Rat} (h : AllO qs) : AllO (0 :: qs) := fun q hq => by
  rcases List.mem_cons.mp hq with rfl | hq
  · exact Ok.zero
  · exact h q hq
/-- one list put behind another, for the law's putting -/
theorem put_ofL {K : PySem.W.Frag} {H : Hp} {Q : VK} {E : XK} {x y : V} {us fs : List Rat} {i j : Nat} (lx : Ls K H x (0 :: us)) (ly : Ls K H y (0 :: fs)) (l : us.length = fs.length) (l8 : us.length ≤ 8) (zu : Sz i us) (zf : Sz j fs) (q : ∀ b H', Same H H' → H b = none → H' b ≠ none → Ls K H' (.ref b) (0 :: cmpL us fs) → Q (.ref b) H') : spPutL K [x, y] H Q E := by
  obtain ⟨L, B, M, C, e1, e2, e3, e4, e5, e6, e7⟩ := zu.pu zf l8 (by omega)
  refine ⟨x, y, 0 :: us, 0 :: fs, L, B, M, C, rfl, lx, ly, by rw [List.length_cons, List.length_cons, l], by rw [List.length_cons]; omega, by rw [List.length_cons]; omega, rfl, e1, e2, e3, e4, e5, al0 e6, al0 e7, fun b H' xs s nb hb mb => ?_⟩
  refine q b H' s nb (by rw [hb]; intro z; cases z) ⟨b, xs, rfl, hb, ?_⟩
  have e : toL (0 :: us).length (cmpS (ser (0 :: us)) (ser (0 :: fs))) = 0 :: cmpL us fs := by
    show toL (us.length + 1) (cmpS (serS us) (serS fs)) = _
    rw [← toT0 (show cmpS (serS us) (serS fs) 0 = 0 by rw [cmpS_zero]; rfl)]
    rfl
  rw [e] at mb
  exact mb
section
variable {P : Program} {w : World} {K : PySem.W.Frag} {mg : Str → Option Value} {base : Heap} {f o0 : Addr} {fd : FuncData}
theorem ok_not0z (F : Fun K "_law_not0" "_law_not0" L_not0 f fd) (UN : Use P w K mg base CX0 2 "_law_num" ["_law_bag_here"] (spNum K 3 NumQ) []) (UO : Use P w K mg base CX0 2 "_law_of" ["_law_bag_here", "_law_things"] spOfL []) : FnOk P w K mg base CX0 3 f fd ["_law_bag_here"] (spNum K 4 NumZ) := by
  refine F.ok scNot (fun vs H Q E h => ?_) (fun cdv A outer s H vs Q E hr h => ?_)
  · obtain ⟨n, B, p, rfl, _⟩ := h
    rfl
  obtain ⟨n, B, p, rfl, hb, q⟩ := h
  refine ⟨_, pss_cons (ps_set (i := 1) scNot.nd rfl (Or.inl rfl) (pe_use UN hr rfl pass0 (pa_cons (pv 0) pa_nil)))
    (pss_one (ps_ret (pe_ifExp (pt_cmpR op_ne (pe_ix ix_tup (pv 1) pe_int (fun _ _ => rfl)) pe_int (nomark _)) (pv 1)
      (pe_use UO hr rfl pass0 (pa_cons (pv 0) (pa_cons (pe_lst (pa_cons (pe_tup (pa_cons pe_int (pa_cons pe_int pa_nil))) (pa_cons (pe_tup (pa_cons (pe_un un_neg pe_int) (pa_cons pe_int pa_nil))) (pa_cons (pe_tup (pa_cons pe_int (pa_cons pe_int pa_nil))) (pa_cons (pe_tup (pa_cons pe_int (pa_cons pe_int pa_nil))) (pa_cons (pe_tup (pa_cons (pe_un un_neg pe_int) (pa_cons pe_int pa_nil))) (pa_cons (pe_tup (pa_cons pe_int (pa_cons pe_int pa_nil))) pa_nil))))))) pa_nil)))))), ?_⟩
  refine ⟨_, rfl, n + 1, B, p, rfl, hb, fun H1 v a b1 u1 na ba => ?_⟩
  obtain ⟨va, rfl, sa, _⟩ := na.sq
  refine ⟨_, rfl, va, _, 0, _, rfl, rfl, sa, rfl, rfl, _, rfl, ?_⟩
  by_cases c : a.num = 0
  case neg =>
    rw [decide_eq_false (fun e => c (V.int.inj e))]
    exact iteT ⟨_, rfl, q _ _ a (b1.less (by omega)) u1 na ⟨ba, fun z => c (by rw [z]; rfl)⟩⟩
  rw [decide_eq_true (congrArg V.int c)]
  refine iteF ⟨_, rfl, ⟨(by show 2 ≤ sizeLine; decide), fun t1 m1 => ⟨_, rfl, (by show 2 ≤ sizeLine; decide), fun t2 m2 => ⟨(by show 2 ≤ sizeLine; decide), fun t3 m3 => ⟨(by show 2 ≤ sizeLine; decide), fun t4 m4 => ⟨_, rfl, (by show 2 ≤ sizeLine; decide), fun t5 m5 => ⟨(by show 2 ≤ sizeLine; decide), fun t6 m6 => ⟨(by show 6 ≤ sizeLine; decide), fun l nl => ?_⟩⟩⟩⟩⟩⟩⟩⟩
  have e1 := new_same m1 (HO.tup [.int 1, .int 1])
  have e2 := new_same m2 (HO.tup [.int (-1), .int 1])
  have e3 := new_same m3 (HO.tup [.int 2, .int 1])
  have e4 := new_same m4 (HO.tup [.int 1, .int 2])
  have e5 := new_same m5 (HO.tup [.int (-3), .int 2])
  have e6 := new_same m6 (HO.tup [.int 5, .int 1])
  have el := new_same nl (HO.lst [V.ref t1, V.ref t2, V.ref t3, V.ref t4, V.ref t5, V.ref t6])
  have r6 := el
  have r5 := e6.trans r6
  have r4 := e5.trans r5
  have r3 := e4.trans r4
  have r2 := e3.trans r3
  have r1 := e2.trans r2
  have sA := e1.trans r1
  have sT := e1.trans (e2.trans (e3.trans (e4.trans (e5.trans (e6)))))
  have bb := b1.same sT
  refine ⟨n, B, p, l, _, rfl, upd_same, (bb.at nl).1, (by show 0 < 6; decide), (by show 6 ≤ 1000; decide), b1.same sA, fun H2 x b2 u2 hx => ?_⟩
  have uu : But B H H2 := u1.trans ((But.same sA).trans u2)
  simp only [List.mem_cons, List.not_mem_nil, or_false] at hx
  rcases hx with rfl | rfl | rfl | rfl | rfl | rfl
  · exact q H2 _ 1 b2 uu ((Nq.at (K := K) (r1 _ _ (show _ = some (rT 1) from upd_same))).go (b1.same sA) (Go.of u2)) ⟨⟨by decide +kernel, by decide +kernel⟩, by decide +kernel⟩
  · exact q H2 _ (-1) b2 uu ((Nq.at (K := K) (r2 _ _ (show _ = some (rT (-1)) from upd_same))).go (b1.same sA) (Go.of u2)) ⟨⟨by decide +kernel, by decide +kernel⟩, by decide +kernel⟩
  · exact q H2 _ 2 b2 uu ((Nq.at (K := K) (r3 _ _ (show _ = some (rT 2) from upd_same))).go (b1.same sA) (Go.of u2)) ⟨⟨by decide +kernel, by decide +kernel⟩, by decide +kernel⟩
  · exact q H2 _ (mkRat (1) 2) b2 uu ((Nq.at (K := K) (r4 _ _ (show _ = some (rT (mkRat (1) 2)) from upd_same))).go (b1.same sA) (Go.of u2)) ⟨⟨by decide +kernel, by decide +kernel⟩, by decide +kernel⟩
  · exact q H2 _ (mkRat (-3) 2) b2 uu ((Nq.at (K := K) (r5 _ _ (show _ = some (rT (mkRat (-3) 2)) from upd_same))).go (b1.same sA) (Go.of u2)) ⟨⟨by decide +kernel, by decide +kernel⟩, by decide +kernel⟩
  · exact q H2 _ 5 b2 uu ((Nq.at (K := K) (r6 _ _ (show _ = some (rT 5) from upd_same))).go (b1.same sA) (Go.of u2)) ⟨⟨by decide +kernel, by decide +kernel⟩, by decide +kernel⟩
theorem scPpr : FnScope nPpr ["_law_bag_here", "_law_deg"] (defScope L_paper) := ⟨rfl, rfl, rfl, by decide +kernel, rfl, by decide +kernel, by decide +kernel⟩
theorem ok_paper (F : Fun K "_law_paper" "_law_paper" L_paper f fd) (UR : Use P w K mg base CX0 4 "_law_renamer" ["_law_bag_here", "_law_deg"] (spRnm K) []) (UD : Use P w K mg base CX0 1 "_law_draw" ["_law_bag_here", "_law_many_y"] spDraw []) (UX : Use P w K mg base CX0 1 "_law_x" ["_law_deg"] (spX K) []) (UZ : Use P w K mg base CX0 1 "_law_zeros" ["_law_many_y"] (spZeros K) []) (USl : Use P w K mg base CX0 6 "_law_slow" ["_law_bag_here", "_law_deg"] (spSlo K) []) (UU : Use P w K mg base CX0 6 "_law_unled" ["_law_f", "_law_g"] (spUnl K) []) (UG : Use P w K mg base CX0 4 "_law_scaling" ["_law_cc", "_law_deg"] (spScg K) [])
    (UO : Use P w K mg base CX0 2 "_law_of" ["_law_bag_here", "_law_things"] spOfL []) (UC : Use P w K mg base CX0 3 "_law_scaled" ["_law_u", "_law_p"] (spMulsL K) []) (UN0 : Use P w K mg base CX0 3 "_law_not0" ["_law_bag_here"] (spNum K 4 NumZ) []) (UF : Use P w K mg base CX0 4 "_law_flipped" ["_law_f"] (spFlp K) []) (UOd : Use P w K mg base CX0 4 "_law_odd_step" ["_law_bag_here", "_law_deg"] (spOdd K) []) (UL : Use P w K mg base CX0 3 "_law_less" ["_law_u", "_law_w"] (spTwoL K (· - ·)) []) (UP : Use P w K mg base CX0 2 "_law_put" ["_law_u", "_law_f"] (spPutL K) []) : FnOk P w K mg base CX0 7 f fd ["_law_bag_here", "_law_deg"] (spPpr K) := by
  refine F.ok scPpr (fun vs H Q E h => ?_) (fun cdv A outer s H vs Q E hr h => ?_)
  · obtain ⟨n, B, p, deg, rfl, _⟩ := h
    rfl
  obtain ⟨n, B, p, deg, rfl, hb, d2, d6, q⟩ := h
  have d7 : deg ≤ 7 := by omega
  have hr1 := hr.mono (show 1 ≤ 6 by decide)
  have hr2 := hr.mono (show 2 ≤ 6 by decide)
  have hr3 := hr.mono (show 3 ≤ 6 by decide)
  have hr4 := hr.mono (show 4 ≤ 6 by decide)
  refine ⟨_, (C8.pss_cut (ps_set (i := 2) scPpr.nd rfl (Or.inl rfl) (pe_use UR hr4 rfl pass0 (pa_cons (pv 0) (pa_cons (pv 1) pa_nil))))
    (C8.pss_cut (ps_set (i := 3) scPpr.nd rfl (Or.inl rfl) (pe_use UD hr1 rfl pass0 (pa_cons (pv 0) (pa_cons pe_int pa_nil))))
    (C8.pss_cut (ps_if (pt_cmpR op_eq (pv 3) pe_int (nomark _)) (C8.pss_cut (ps_set (i := 4) scPpr.nd rfl (Or.inl rfl) (pe_use USl hr rfl pass0 (pa_cons (pv 0) (pa_cons (pv 1) pa_nil))))
    (pss_one (ps_ret (pe_lst (pa_cons (pe_use UZ hr1 rfl pass0 (pa_cons (pe_op op_add (pv 1) pe_int) pa_nil)) (pa_cons (pe_use UZ hr1 rfl pass0 (pa_cons (pe_op op_add (pv 1) pe_int) pa_nil)) (pa_cons (pv 4) (pa_cons (pv 2) pa_nil)))))))) pss_nil)
    (C8.pss_cut (ps_if (pt_cmpR op_lt (pv 3) pe_int (nomark _)) (C8.pss_cut (ps_set (i := 4) scPpr.nd rfl (Or.inl rfl) (pe_use USl hr rfl pass0 (pa_cons (pv 0) (pa_cons (pv 1) pa_nil))))
    (pss_one (ps_ret (pe_lst (pa_cons (pv 4) (pa_cons (pe_use UX hr1 rfl pass0 (pa_cons (pv 1) pa_nil)) (pa_cons (pv 4) (pa_cons (pv 2) pa_nil)))))))) pss_nil)
    (C8.pss_cut (ps_if (pt_cmpR op_lt (pv 3) pe_int (nomark _)) (C8.pss_cut (ps_set (i := 5) scPpr.nd rfl (Or.inl rfl) (pe_use UU hr rfl pass0 (pa_cons (pe_use UG hr4 rfl pass0 (pa_cons (pe_use UO hr2 rfl pass0 (pa_cons (pv 0) (pa_cons (pe_lst (pa_cons (pe_tup (pa_cons pe_int (pa_cons pe_int pa_nil))) (pa_cons (pe_tup (pa_cons (pe_un un_neg pe_int) (pa_cons pe_int pa_nil))) (pa_cons (pe_tup (pa_cons pe_int (pa_cons pe_int pa_nil))) (pa_cons (pe_tup (pa_cons pe_int (pa_cons pe_int pa_nil))) (pa_cons (pe_tup (pa_cons (pe_un un_neg pe_int) (pa_cons pe_int pa_nil))) pa_nil)))))) pa_nil))) (pa_cons (pv 1) pa_nil))) (pa_cons (pv 2) pa_nil))))
    (pss_one (ps_ret (pe_lst (pa_cons (pv 5) (pa_cons (pv 5) (pa_cons (pe_use UX hr1 rfl pass0 (pa_cons (pv 1) pa_nil)) (pa_cons (pe_use UC hr3 rfl pass0 (pa_cons (pv 2) (pa_cons (pe_use UN0 hr3 rfl pass0 (pa_cons (pv 0) pa_nil)) pa_nil))) pa_nil)))))))) pss_nil)
    (C8.pss_cut (ps_par (i := 5) (j := 4) rfl scPpr.nd rfl rfl (by decide) rfl rfl (pa_cons (pe_use UU hr rfl pass0 (pa_cons (pe_use UF hr4 rfl pass0 (pa_cons (pe_use UX hr1 rfl pass0 (pa_cons (pv 1) pa_nil)) pa_nil)) (pa_cons (pv 2) pa_nil))) (pa_cons (pe_use UU hr rfl pass0 (pa_cons (pe_use UOd hr4 rfl pass0 (pa_cons (pv 0) (pa_cons (pv 1) pa_nil))) (pa_cons (pv 2) pa_nil))) pa_nil)) rfl)
    (C8.pss_cut (ps_set (i := 6) scPpr.nd rfl (Or.inl rfl) (pe_ifExp (pt_cmpR op_eq (pv 3) pe_int (nomark _)) (pe_use UC hr3 rfl pass0 (pa_cons (pe_use UL hr3 rfl pass0 (pa_cons (pe_use UX hr1 rfl pass0 (pa_cons (pv 1) pa_nil)) (pa_cons (pv 5) pa_nil))) (pa_cons (pe_tup (pa_cons pe_int (pa_cons pe_int pa_nil))) pa_nil))) (pe_use UC hr3 rfl pass0 (pa_cons (pv 2) (pa_cons (pe_use UN0 hr3 rfl pass0 (pa_cons (pv 0) pa_nil)) pa_nil)))))
    (pss_one (ps_ret (pe_lst (pa_cons (pe_use UP hr2 rfl pass0 (pa_cons (pv 5) (pa_cons (pv 4) pa_nil))) (pa_cons (pv 5) (pa_cons (pv 4) (pa_cons (pv 6) pa_nil)))))))))))))), ?_⟩
  refine ⟨fun σ G => ∃ v c b rs, σ = [some (.ref B), some (.int (deg : Nat)), some v, none, none, none, none] ∧ Bag (n + 79) G B p ∧ But B H G ∧ Ls K G v (0 :: c :: rs) ∧ rs.length + 1 = deg ∧ (∀ r ∈ rs, NumQ r) ∧ LdQ c b, ?_, ?_⟩
  · refine ⟨_, rfl, _, rfl, n + 79, B, p, deg, rfl, hb, d2, by omega, fun H1 v c rs b1 u1 lv lr nq lp => ?_⟩
    obtain ⟨b, lq⟩ := lp
    exact ⟨v, c, b, rs, rfl, b1, u1, lv, lr, nq, lq⟩
  clear hb
  rintro σ G ⟨v, c, b, rs, rfl, b1, u1, lv, lr, nq, lq⟩
  have eh : 0 :: c :: rs = toL (deg + 1) (serS (c :: rs)) := by
    have := toL_ser (0 :: c :: rs)
    rw [show (0 :: c :: rs).length = deg + 1 from by show rs.length + 1 + 1 = _; omega] at this
    exact this.symm
  rw [eh] at lv
  have tn : Tn (serS (c :: rs)) deg := rn_tn lq nq (by omega) d7
  have h0 : serS (c :: rs) 0 = 0 := rfl
  have h1c : serS (c :: rs) 1 = c := rfl
  obtain ⟨h, eh'⟩ : ∃ h, h = serS (c :: rs) := ⟨_, rfl⟩
  rw [← eh'] at lv tn h0 h1c
  have l2 : 2 ≤ (toL (deg + 1) h).length := by rw [toL_len]; omega
  refine ⟨fun σ G => ∃ k : Int, σ = [some (.ref B), some (.int (deg : Nat)), some v, some (.int k), none, none, none] ∧ Bag (n + 78) G B p ∧ But B H G ∧ Ls K G v (toL (deg + 1) h), ?_, ?_⟩
  · exact ⟨_, rfl, n + 78, B, p, 8, rfl, by decide, by decide, b1, fun H2 k b2 u2 k0 k1 => ⟨k, rfl, b2, u1.trans u2, lv.go l2 b1 (Go.of u2)⟩⟩
  clear b1 u1 lv
  rintro σ G ⟨k, rfl, b2, u2, lv⟩
  have lx : ∀ {F : Ser}, 2 ≤ (toL (deg + 1) F).length := fun {F} => by rw [toL_len]; omega
  have e1 : ∀ rs2 : List Rat, rs2.length + 1 = deg → 0 :: 1 :: rs2 = toL (deg + 1) (serS (1 :: rs2)) := fun rs2 l => by
    have := toL_ser (0 :: 1 :: rs2)
    rw [show (0 :: 1 :: rs2).length = deg + 1 from by show rs2.length + 1 + 1 = _; omega] at this
    exact this.symm
  refine ⟨fun σ' G' => G' = G ∧ σ' = [some (.ref B), some (.int (deg : Nat)), some v, some (.int k), none, none, none], ?_, ?_⟩
  · refine ⟨_, rfl, rfl, _, rfl, ite2 (fun _ => ?_) (fun _ => ⟨rfl, rfl⟩)⟩
    refine ⟨fun σ G => ∃ v2 rs2 d, σ = [some (.ref B), some (.int (deg : Nat)), some v, some (.int k), some v2, none, none] ∧ Bag (n + 15) G B p ∧ But B H G ∧ Ls K G v (toL (deg + 1) h) ∧ Ls K G v2 (toL (deg + 1) (serS (1 :: rs2))) ∧ 0 < d ∧ d ≤ 99 ∧ ∀ r ∈ rs2, TlQ d r, ?_, ?_⟩
    · refine ⟨_, rfl, _, rfl, n + 15, B, p, deg, rfl, b2, d2, by omega, fun H2 v2 rs2 d b3 u3 lv3 lr3 d0 d9 tl => ?_⟩
      rw [e1 rs2 lr3] at lv3
      exact ⟨v2, rs2, d, rfl, b3, u2.trans u3, lv.go l2 b2 (Go.of u3), lv3, d0, d9, tl⟩
    rintro σ G ⟨v2, rs2, d, rfl, b3, u3, lv3, lw3, d0, d9, tl⟩
    have hz : ∀ m : Nat, List.replicate m (0 : Rat) = toL m (fun _ => 0) := fun m => by
      unfold toL
      rw [List.map_const', List.length_range]
    refine ⟨_, rfl, deg, 1, rfl, rfl, deg + 1, rfl, by omega, fun x1 H1 ys s1 nx hx mx => ?_⟩
    rw [hz] at mx
    refine ⟨_, rfl, deg, 1, rfl, rfl, deg + 1, rfl, by omega, fun x2 H2 zs s2 nx2 hx2 mx2 => ?_⟩
    rw [hz] at mx2
    refine ⟨_, rfl, _, rfl, (by show 4 ≤ sizeLine; decide), fun l nl => ?_⟩
    have s3 := new_same nl (HO.lst [V.ref x1, V.ref x2, v2, v])
    have a1 : Ls K H1 (.ref x1) (toL (deg + 1) (fun _ => 0)) := ⟨x1, ys, rfl, hx, mx⟩
    have a2 : Ls K H2 (.ref x2) (toL (deg + 1) (fun _ => 0)) := ⟨x2, zs, rfl, hx2, mx2⟩
    have sA := s1.trans (s2.trans s3)
    have P0 := pp_0 (N := deg) d2 lq nq d0 d9 tl
    rw [← eh'] at P0
    have F := f4_of (K := K) d2 d6 (upd_same (H := H2) (a := l)) (a1.same (s2.trans s3)) (a2.same s3) (lw3.same sA) (lv3.same sA) P0
    exact q _ l _ _ _ _ ((b3.same sA).less (by omega)) (u3.trans (But.same sA)) (by rw [upd_same]; intro z; cases z) F P0.w
  rintro σ' G' ⟨rfl, rfl⟩
  refine ⟨fun σ G1 => G1 = G' ∧ σ = [some (.ref B), some (.int (deg : Nat)), some v, some (.int k), none, none, none], ?_, ?_⟩
  · refine ⟨_, rfl, k, 3, rfl, rfl, _, rfl, ite2 (fun _ => ?_) (fun _ => ⟨rfl, rfl⟩)⟩
    refine ⟨fun σ G => ∃ v2 rs2 d, σ = [some (.ref B), some (.int (deg : Nat)), some v, some (.int k), some v2, none, none] ∧ Bag (n + 15) G B p ∧ But B H G ∧ Ls K G v (toL (deg + 1) h) ∧ Ls K G v2 (toL (deg + 1) (serS (1 :: rs2))) ∧ 0 < d ∧ d ≤ 99 ∧ ∀ r ∈ rs2, TlQ d r, ?_, ?_⟩
    · refine ⟨_, rfl, _, rfl, n + 15, B, p, deg, rfl, b2, d2, by omega, fun H2 v2 rs2 d b3 u3 lv3 lr3 d0 d9 tl => ?_⟩
      rw [e1 rs2 lr3] at lv3
      exact ⟨v2, rs2, d, rfl, b3, u2.trans u3, lv.go l2 b2 (Go.of u3), lv3, d0, d9, tl⟩
    rintro σ G ⟨v2, rs2, d, rfl, b3, u3, lv3, lw3, d0, d9, tl⟩
    refine ⟨_, rfl, _, rfl, deg, rfl, by omega, by omega, fun x1 H1 ys s1 nx hx mx => ?_⟩
    rw [x_L (by omega)] at mx
    refine ⟨_, rfl, _, rfl, (by show 4 ≤ sizeLine; decide), fun l nl => ?_⟩
    have s3 := new_same nl (HO.lst [v2, V.ref x1, v2, v])
    have a1 : Ls K H1 (.ref x1) (toL (deg + 1) xS) := ⟨x1, ys, rfl, hx, mx⟩
    have sA := s1.trans s3
    have P0 := pp_1 (N := deg) d2 lq nq d0 d9 tl
    rw [← eh'] at P0
    have F := f4_of (K := K) d2 d6 (upd_same (H := H1) (a := l)) (lw3.same sA) (a1.same s3) (lw3.same sA) (lv3.same sA) P0
    exact q _ l _ _ _ _ ((b3.same sA).less (by omega)) (u3.trans (But.same sA)) (by rw [upd_same]; intro z; cases z) F P0.w
  rintro σ' G1 ⟨rfl, rfl⟩
  have unl : ∀ {f : Ser} {vf : V} {G0 : Hp} {Q' : VK} {L B' : Nat}, Ls K G0 vf (toL (deg + 1) f) → Ls K G0 v (toL (deg + 1) h) → f 0 = 0 → 0 < L → L < 2 ^ 1000 → B' ≤ 10000 → (∀ k, k ≤ deg → Dq L B' (f k)) → (∀ b H', Same G0 H' → H' b ≠ none → Ls K H' (.ref b) (toL (deg + 1) (cjS h f)) → Q' (.ref b) H') → spUnl K [vf, v] G0 Q' E := fun {f vf G0 Q' L B'} l1 l2' f0 L0 L1 B1 dq qq =>
    ⟨vf, v, f, h, deg, L, B', rfl, l1, l2', f0, tn, by omega, d7, L0, L1, B1, dq, fun b H' xs s nb hb mb => qq b H' s (by rw [hb]; intro z; cases z) ⟨b, xs, rfl, hb, mb⟩⟩
  obtain ⟨M, Z, m0, m70, z4, gh, gi⟩ := tn.ex
  have sM := (lt70 m70 m0).2
  have okh : AllO (toL (deg + 1) h) := (allD_toL (L := M) (B := Z) fun j hj => gh.one (show j ≤ deg by omega)).ok sM (by omega)
  have okc : Ok c := by
    rw [← h1c]
    exact (gh.one (show 1 ≤ deg by omega)).ok sM (by omega)
  refine ⟨fun σ G => G = G1 ∧ σ = [some (.ref B), some (.int (deg : Nat)), some v, some (.int k), none, none, none], ?_, ?_⟩
  · refine ⟨_, rfl, k, 5, rfl, rfl, _, rfl, ite2 (fun _ => ?_) (fun _ => ⟨rfl, rfl⟩)⟩
    refine ⟨fun σ G => ∃ (a : Addr) (kq kb : Rat) (E : Nat), σ = [some (.ref B), some (.int (deg : Nat)), some v, some (.int k), none, some (.ref a), none] ∧ Bag (n + 77) G B p ∧ But B H G ∧ Ls K G v (toL (deg + 1) h) ∧ Ls K G (.ref a) (toL (deg + 1) (cjS h (scS kq xS))) ∧ LdS kq kb E, ?_, ?_⟩
    · refine ⟨_, rfl, ⟨(by show 2 ≤ sizeLine; decide), fun t1 m1 => ⟨_, rfl, (by show 2 ≤ sizeLine; decide), fun t2 m2 => ⟨(by show 2 ≤ sizeLine; decide), fun t3 m3 => ⟨(by show 2 ≤ sizeLine; decide), fun t4 m4 => ⟨_, rfl, (by show 2 ≤ sizeLine; decide), fun t5 m5 => ⟨(by show 5 ≤ sizeLine; decide), fun l nl => ?_⟩⟩⟩⟩⟩⟩⟩
      have e1 := new_same m1 (HO.tup [.int 2, .int 1])
      have e2 := new_same m2 (HO.tup [.int (-2), .int 1])
      have e3 := new_same m3 (HO.tup [.int 1, .int 2])
      have e4 := new_same m4 (HO.tup [.int 3, .int 1])
      have e5 := new_same m5 (HO.tup [.int (-1), .int 3])
      have el := new_same nl (HO.lst [V.ref t1, V.ref t2, V.ref t3, V.ref t4, V.ref t5])
      have r5 := el
      have r4 := e5.trans r5
      have r3 := e4.trans r4
      have r2 := e3.trans r3
      have r1 := e2.trans r2
      have sA := e1.trans r1
      have sT := e1.trans (e2.trans (e3.trans (e4.trans e5)))
      refine ⟨n + 77, B, p, l, _, rfl, upd_same, ((b2.same sT).at nl).1, (by show 0 < 5; decide), (by show 5 ≤ 1000; decide), b2.same sA, fun H2 x b3 u3 hx => ?_⟩
      have uu : But B G1 H2 := (But.same sA).trans u3
      have kk : ∀ (t : Addr) (kq kb : Rat) (E' : Nat), upd (upd (upd (upd (upd (upd G1 t1 (HO.tup [.int 2, .int 1])) t2 (HO.tup [.int (-2), .int 1])) t3 (HO.tup [.int 1, .int 2])) t4 (HO.tup [.int 3, .int 1])) t5 (HO.tup [.int (-1), .int 3])) l (HO.lst [V.ref t1, V.ref t2, V.ref t3, V.ref t4, V.ref t5]) t = some (rT kq) → LdS kq kb E' → ∃ (kq kb : Rat) (E : Nat), Nq K H2 (.ref t) kq ∧ LdS kq kb E := fun t kq kb E' et lk => ⟨kq, kb, E', (Nq.at (K := K) et).go (b2.same sA) (Go.of u3), lk⟩
      have hk : ∃ (kq kb : Rat) (E : Nat), Nq K H2 x kq ∧ LdS kq kb E := by
        simp only [List.mem_cons, List.not_mem_nil, or_false] at hx
        rcases hx with rfl | rfl | rfl | rfl | rfl
        · exact kk _ 2 _ _ (r1 _ _ upd_same) ld_2
        · exact kk _ (-2) _ _ (r2 _ _ upd_same) ld_m2
        · exact kk _ (mkRat 1 2) _ _ (r3 _ _ upd_same) ld_h
        · exact kk _ 3 _ _ (r4 _ _ upd_same) ld_3
        · exact kk t5 (mkRat (-1) 3) _ _ (r5 _ _ upd_same) ld_mt
      obtain ⟨kq, kb, E', nk, lk⟩ := hk
      have lv2 := lv.go lx b2 (Go.of uu)
      refine ⟨_, rfl, x, kq, deg, rfl, nk, lk.a.ok ⟨by decide, Nat.lt_of_lt_of_le (show 6 < 2 ^ 3 by decide) (Nat.pow_le_pow_right (by decide) (by decide))⟩ (by decide), by omega, by omega, fun y H3 ys s3 ny hy my => ?_⟩
      rw [sc_L (by omega)] at my
      refine ⟨_, rfl, unl ⟨y, ys, rfl, hy, my⟩ (lv2.same s3) (scx0 _) (show 0 < 6 by decide) (Nat.lt_of_lt_of_le (show 6 < 2 ^ 3 by decide) (Nat.pow_le_pow_right (by decide) (by decide))) (show 5 ≤ 10000 by decide) (fun j _ => ?_) fun z H4 s4 _ lz => ?_⟩
      · by_cases c : j = 1
        · rw [c, scx1]; exact lk.a
        · rw [show scS kq xS j = 0 by show kq * xS j = 0; rw [show xS j = 0 from if_neg c, Rat.mul_zero]]; exact Dq.zero
      · exact ⟨z, kq, kb, E', rfl, b3.same (s3.trans s4), (u2.trans uu).trans (But.same (s3.trans s4)), lv2.same (s3.trans s4), lz, lk⟩
    rintro σ G ⟨a, kq, kb, E', rfl, b3, u3, lv3, la, lk⟩
    have c0 : c ≠ 0 := fun z => by have e := lq.e; rw [z, Rat.zero_mul] at e; exact absurd e (by decide)
    refine ⟨_, rfl, _, rfl, _, rfl, deg, rfl, by omega, by omega, fun x1 H1 ys s1 nx hx mx => ?_⟩
    rw [x_L (by omega)] at mx
    refine ⟨_, rfl, _, rfl, n + 73, B, p, rfl, b3.same s1, fun H2 y r b4 u4 ny nr => ?_⟩
    have a1 : Ls K H1 (.ref x1) (toL (deg + 1) xS) := ⟨x1, ys, rfl, hx, mx⟩
    have gg := Go.of u4
    have b31 := b3.same s1
    refine ⟨v, y, toL (deg + 1) h, r, rfl, (lv3.same s1).go lx b31 gg, ny, by rw [toL_len]; omega, okh, nr.1.dq.ok ⟨by decide, Nat.lt_of_lt_of_le (show 60 < 2 ^ 6 by decide) (Nat.pow_le_pow_right (by decide) (by decide))⟩ (by decide), fun b5 H4 zs s4 nb hb4 mb4 => ?_⟩
    rw [map_L, toL_eq (show EqTo (deg + 1) (fun j => h j * r) (scS r h) from fun j _ => Rat.mul_comm _ _)] at mb4
    refine ⟨(by show 4 ≤ sizeLine; decide), fun l nl => ?_⟩
    have s5 := new_same nl (HO.lst [V.ref a, V.ref a, V.ref x1, V.ref b5])
    have a4 : Ls K H4 (.ref b5) (toL (deg + 1) (scS r h)) := ⟨b5, zs, rfl, hb4, mb4⟩
    have P0 := pp_s (N := deg) d2 d7 lq nq lk nr.1 nr.2
    rw [← eh'] at P0
    have s45 := s4.trans s5
    have la' := ((la.same s1).go lx b31 gg).same s45
    have F := f4_of (K := K) d2 d6 (upd_same (H := H4) (a := l)) la' la' ((a1.go lx b31 gg).same s45) (a4.same s5) P0
    exact q _ l _ _ _ _ ((b4.same s45).less (by omega)) (u3.trans ((But.same s1).trans (u4.trans (But.same s45)))) (by rw [upd_same]; intro z; cases z) F P0.w
  rintro σ' G2 ⟨rfl, rfl⟩
  have okx : AllO (toL (deg + 1) xS) := by
    rw [← x_L (by omega)]
    exact x_ok deg
  have six : SmL 60 := ⟨by decide, Nat.lt_of_lt_of_le (show 60 < 2 ^ 6 by decide) (Nat.pow_le_pow_right (by decide) (by decide))⟩
  refine ⟨fun σ G => ∃ (a a2 : Addr) (os : List Rat), σ = [some (.ref B), some (.int (deg : Nat)), some v, some (.int k), some (.ref a2), some (.ref a), none] ∧ Bag (n + 58) G B p ∧ But B H G ∧ Ls K G (.ref a) (toL (deg + 1) (cjS h (scS (-1) xS))) ∧ Ls K G (.ref a2) (toL (deg + 1) (cjS h (serS (1 :: os)))) ∧ Ls K G v (toL (deg + 1) h) ∧ (∀ r ∈ os, NumQ r) ∧ (∀ k r, os[2 * k]? = some r → r = 0), ?_, ?_⟩
  · refine ⟨_, rfl, deg, rfl, by omega, by omega, fun x1 H1 ys s1 nx hx mx => ?_⟩
    rw [x_L (by omega)] at mx
    refine ⟨.ref x1, toL (deg + 1) xS, rfl, ⟨x1, ys, rfl, hx, mx⟩, by rw [toL_len]; omega, okx, fun x2 H2 zs s2 nx2 hx2 mx2 => ?_⟩
    rw [map_L, toL_eq (show EqTo (deg + 1) (fun j => xS j * -1) (scS (-1) xS) from fun j _ => Rat.mul_comm _ _)] at mx2
    have s12 := s1.trans s2
    refine ⟨_, rfl, unl ⟨x2, zs, rfl, hx2, mx2⟩ (lv.same s12) (scx0 _) (show 0 < 1 by decide) (Nat.lt_of_lt_of_le (show 1 < 2 ^ 1 by decide) (Nat.pow_le_pow_right (by decide) (by decide))) (show 1 ≤ 10000 by decide) (fun j _ => ?_) fun z H3 s3 _ lz => ?_⟩
    · by_cases c : j = 1
      · rw [c, scx1]; exact (Dq.one (by decide)).neg
      · rw [show scS (-1) xS j = 0 by show -1 * xS j = 0; rw [show xS j = 0 from if_neg c, Rat.mul_zero]]; exact Dq.zero
    have s13 := s12.trans s3
    have b3 := b2.same s13
    refine ⟨_, rfl, _, rfl, n + 58, B, p, deg, rfl, b3.less (by omega), d2, d7, fun H4 v4 os b4 u4 lv4 lr4 nq4 od => ?_⟩
    have e4 : 0 :: 1 :: os = toL (deg + 1) (serS (1 :: os)) := by
      have := toL_ser (0 :: 1 :: os)
      rw [show (0 :: 1 :: os).length = deg + 1 from by show os.length + 1 + 1 = _; omega] at this
      exact this.symm
    rw [e4] at lv4
    refine ⟨_, rfl, unl lv4 ((lv.same s13).go lx b3 (Go.of u4)) rfl (show 0 < 60 by decide) (Nat.lt_of_lt_of_le (show 60 < 2 ^ 6 by decide) (Nat.pow_le_pow_right (by decide) (by decide))) (show 10 ≤ 10000 by decide) (fun j _ => ?_) fun z2 H5 s5 _ lz2 => ?_⟩
    · match j with
      | 0 => exact Dq.zero
      | 1 => exact Dq.one (by decide)
      | j + 2 =>
        show Dq _ _ (os.getD j 0)
        rw [List.getD_eq_getElem?_getD]
        cases x : os[j]? with
        | none => exact Dq.zero
        | some r => exact (nq4 r (List.mem_of_getElem? x)).dq
    exact ⟨_, _, rfl, z, z2, os, rfl, b4.same s5, u2.trans ((But.same s13).trans (u4.trans (But.same s5))), (lz.go lx b3 (Go.of u4)).same s5, lz2, ((lv.same s13).go lx b3 (Go.of u4)).same s5, nq4, od⟩
  rintro σ G ⟨a, a2, os, rfl, b5, u5, la, la2, lv5, nq5, od⟩
  have bx : ∀ {y : V} {g : Ser} {G0 : Hp}, Ls K G0 y (toL (deg + 1) g) → g 0 = 0 → Ls K G0 y (0 :: toT deg g) := fun l g0 => by
    rw [toT0 g0]
    exact l
  have s0 : cjS h (scS (-1) xS) 0 = 0 := cj_0
  have u0 : cjS h (serS (1 :: os)) 0 = 0 := cj_0
  refine ⟨fun σ G => ∃ (a3 : Addr) (hh : Ser), σ = [some (.ref B), some (.int (deg : Nat)), some v, some (.int k), some (.ref a2), some (.ref a), some (.ref a3)] ∧ Bag (n + 54) G B p ∧ But B H G ∧ Ls K G (.ref a) (toL (deg + 1) (cjS h (scS (-1) xS))) ∧ Ls K G (.ref a2) (toL (deg + 1) (cjS h (serS (1 :: os)))) ∧ Ls K G (.ref a3) (toL (deg + 1) hh) ∧ (hh = flH (cjS h (scS (-1) xS)) ∨ ∃ q, NumQ q ∧ q ≠ 0 ∧ hh = scS q h), ?_, ?_⟩
  · have zs : Sz 0 (toT deg (cjS h (scS (-1) xS))) := by
      have P0 := pp_f (N := deg) d2 d7 lq nq nq5 od (.inl rfl)
      rw [← eh'] at P0
      exact P0.zs
    obtain ⟨M9, m90, m9, g9⟩ := zs.gl (by rw [toT_len]; omega)
    rw [toT_len] at g9
    have g1 : ∀ j, j ≤ deg → Dq M9 12000 (cjS h (scS (-1) xS) j) := fun j hj => by
      rcases Nat.eq_zero_or_pos j with z | z
      · rw [z, s0]; exact Dq.zero
      · have := g9.one hj
        rw [serS_toT s0 j (by omega)] at this
        exact this
    have x1d : ∀ j, Dq M9 12000 (xS j) := fun j => by
      by_cases z : j = 1
      · rw [z]
        exact Dq.mono ((Dq.one (B := 1) (by decide)).up (M := M9) (C := 705) M9 (Nat.one_mul _).symm (Nat.le_of_lt m9)) (by decide)
      · rw [show xS j = 0 from if_neg z]; exact Dq.zero
    have oks : AllO (toL (deg + 1) (cjS h (scS (-1) xS))) := AllD.ok (L := M9) (B := 12000) (allD_toL fun j hj => g1 j (by omega)) (sm705 m9 m90) (by decide)
    have okd : AllO (toL (deg + 1) fun j => xS j - cjS h (scS (-1) xS) j) := AllD.ok (L := M9) (B := 12001) (allD_toL fun j hj => (x1d j).sub (g1 j (by omega)) (by decide) (by decide)) (sm705 m9 m90) (by decide)
    have okh2 : Ok hfq := ⟨Nat.lt_of_lt_of_le (show hfq.num.natAbs < 2 ^ 2 by decide +kernel) (Nat.pow_le_pow_right (by decide) (by decide)), Nat.lt_of_lt_of_le (show hfq.den < 2 ^ 2 by decide +kernel) (Nat.pow_le_pow_right (by decide) (by decide))⟩
    refine ⟨_, rfl, rfl, _, rfl, ite2 (fun _ => ?_) (fun _ => ?_)⟩
    · refine ⟨_, rfl, deg, rfl, by omega, by omega, fun x1 H1 ys s1 nx hx mx => ?_⟩
      rw [x_L (by omega)] at mx
      refine ⟨_, rfl, .ref x1, .ref a, _, _, rfl, ⟨x1, ys, rfl, hx, mx⟩, la.same s1, by rw [toL_len, toL_len], by rw [toL_len]; omega, okx, oks, fun x2 H2 zs s2 nx2 hx2 mx2 => ?_⟩
      rw [zip_L] at mx2
      refine ⟨(by show 2 ≤ sizeLine; decide), fun t nt => ?_⟩
      have s3 := new_same nt (HO.tup [.int 1, .int 2])
      refine ⟨.ref x2, .ref t, _, hfq, rfl, ⟨x2, zs, rfl, s3 _ _ hx2, mx2.same s3⟩, .at (K := K) upd_same, by rw [toL_len]; omega, okd, okh2, fun x4 H4 ws s4 nx4 hx4 mx4 => ?_⟩
      rw [map_L] at mx4
      have s14 := s1.trans (s2.trans (s3.trans s4))
      exact ⟨x4, flH (cjS h (scS (-1) xS)), rfl, (b5.same s14).less (by omega), u5.trans (But.same s14), la.same s14, la2.same s14, ⟨x4, ws, rfl, hx4, mx4⟩, .inl rfl⟩
    · refine ⟨_, rfl, _, rfl, n + 54, B, p, rfl, b5, fun H2 y r b6 u6 ny nr => ?_⟩
      have gg := Go.of u6
      refine ⟨v, y, toL (deg + 1) h, r, rfl, lv5.go lx b5 gg, ny, by rw [toL_len]; omega, okh, nr.1.dq.ok six (by decide), fun b7 H4 zs4 s4 nb hb4 mb4 => ?_⟩
      rw [map_L, toL_eq (show EqTo (deg + 1) (fun j => h j * r) (scS r h) from fun j _ => Rat.mul_comm _ _)] at mb4
      exact ⟨b7, scS r h, rfl, b6.same s4, u5.trans (u6.trans (But.same s4)), (la.go lx b5 gg).same s4, (la2.go lx b5 gg).same s4, ⟨b7, zs4, rfl, hb4, mb4⟩, .inr ⟨r, nr.1, nr.2, rfl⟩⟩
  rintro σ G6 ⟨a3, hh, rfl, b6, u6, la6, lb6, lc6, hhd⟩
  rw [eh'] at hhd
  have P0 := pp_f (N := deg) d2 d7 lq nq nq5 od hhd
  rw [← eh'] at P0
  refine ⟨_, rfl, _, rfl, put_ofL (E := E) (bx la6 s0) (bx lb6 u0) (by rw [toT_len, toT_len]) (by rw [toT_len]; omega) P0.zs P0.zu fun b7 H7 s7 nb7 hb7 l7 => ?_⟩
  rw [cmp_T s0 u0, toT0 (cmpS0 s0)] at l7
  refine ⟨_, rfl, _, rfl, _, rfl, (by show 4 ≤ sizeLine; decide), fun l nl => ?_⟩
  have s8 := new_same nl (HO.lst [V.ref b7, V.ref a, V.ref a2, V.ref a3])
  have s78 := s7.trans s8
  have F := f4_of (K := K) d2 d6 (upd_same (H := H7) (a := l)) (l7.same s8) (la6.same s78) (lb6.same s78) (lc6.same s78) P0
  exact q _ l _ _ _ _ ((b6.same s78).less (by omega)) (u6.trans (But.same s78)) (by rw [upd_same]; intro z; cases z) F P0.w
end
end Kx
end
section
set_option maxHeartbeats 4000000
namespace Kx
open PySem PySem.Spec PyProof.Rows L2 RZ
/-! ### sizes of a spoilt list -/
def SzR (a b : Nat) (qs : List Rat) : Prop := ∃ E m, 0 < E ∧ E ≤ 2 ^ a ∧ m ≤ b ∧ Gw E m (serS qs) qs.length
theorem SzR.sz {j : Nat} {qs : List Rat} (h : SzR (szA j) (szB j) qs) : Sz j qs := h
theorem Sz.r {j : Nat} {qs : List Rat} (h : Sz j qs) : SzR (szA j) (szB j) qs := h
theorem SzR.up {a b a' b' : Nat} {qs : List Rat} (h : SzR a b qs) (ha : a ≤ a') (hb : b ≤ b') : SzR a' b' qs := by
  obtain ⟨E, m, e0, ea, mb, g⟩ := h
  exact ⟨E, m, e0, Nat.le_trans ea (Nat.pow_le_pow_right (by decide) ha), by omega, g⟩
theorem serS_set {qs : List Rat} {i : Nat} {q : Rat} (h : i < qs.length) : serS (qs.set i q) = fun k => if k = i + 1 then q else serS qs k := by
  funext k
  match k with
  | 0 => rfl
  | k + 1 =>
    show (qs.set i q).getD k 0 = if k + 1 = i + 1 then q else qs.getD k 0
    rw [List.getD_eq_getElem?_getD, List.getD_eq_getElem?_getD, List.getElem?_set]
    by_cases c : i = k
    · subst c
      rw [if_pos rfl, if_pos h, if_pos rfl]
      rfl
    · rw [if_neg c, if_neg (by omega)]
theorem mul60 {E a : Nat} (h : E ≤ 2 ^ a) : E * 60 ≤ 2 ^ (a + 6) := by
  rw [Nat.pow_add]
  exact Nat.mul_le_mul h (by decide)
theorem SzR.set {a b i : Nat} {qs : List Rat} {q : Rat} (h : SzR a b qs) (hi : i < qs.length) (hq : Dq 60 10 q) : SzR (a + 6) (b + a + 16) (qs.set i q) := by
  obtain ⟨E, m, e0, ea, mb, g⟩ := h
  refine ⟨E * 60, m + a + 16, by omega, mul60 ea, by omega, ?_⟩
  rw [serS_set hi, List.length_set]
  exact g.set e0 ea hq (by omega)
theorem SzR.add {a b i : Nat} {qs : List Rat} {q : Rat} (h : SzR a b qs) (hi : i < qs.length) (hq : Dq 60 10 q) : SzR (a + 6) (b + a + 17) (qs.set i (serS qs (i + 1) + q)) := by
  obtain ⟨E, m, e0, ea, mb, g⟩ := h
  refine ⟨E * 60, m + a + 17, by omega, mul60 ea, by omega, ?_⟩
  have e : serS (qs.set i (serS qs (i + 1) + q)) = fun k => if k = i + 1 then serS qs k + q else serS qs k := by
    rw [serS_set hi]
    funext k
    by_cases c : k = i + 1
    · rw [if_pos c, if_pos c, c]
    · rw [if_neg c, if_neg c]
  rw [e, List.length_set]
  exact g.add e0 ea hq (by omega)
theorem serS_end {qs : List Rat} : serS qs (qs.length + 1) = 0 := by
  show qs.getD qs.length 0 = 0
  rw [List.getD_eq_getElem?_getD, List.getElem?_eq_none (Nat.le_refl _)]
  rfl
theorem serS_app {qs : List Rat} {q : Rat} : serS (qs ++ [q]) = fun k => if k = qs.length + 1 then q else serS qs k := by
  funext k
  match k with
  | 0 => rfl
  | k + 1 =>
    show (qs ++ [q]).getD k 0 = if k + 1 = qs.length + 1 then q else qs.getD k 0
    rw [List.getD_eq_getElem?_getD, List.getD_eq_getElem?_getD]
    rcases Nat.lt_or_ge k qs.length with c | c
    · rw [List.getElem?_append_left c, if_neg (by omega)]
    · rw [List.getElem?_append_right c]
      by_cases d : k = qs.length
      · subst d
        rw [Nat.sub_self, if_pos rfl]
        rfl
      · rw [if_neg (by omega), List.getElem?_eq_none (by show 1 ≤ _; omega), List.getElem?_eq_none (by omega)]
theorem SzR.app {a b : Nat} {qs : List Rat} {q : Rat} (h : SzR a b qs) (hq : Dq 60 10 q) : SzR (a + 6) (b + a + 16) (qs ++ [q]) := by
  obtain ⟨E, m, e0, ea, mb, g⟩ := h
  refine ⟨E * 60, m + a + 16, by omega, mul60 ea, by omega, ?_⟩
  have g' : Gw E m (serS qs) (qs.length + 1) := ⟨g.z, fun k k1 hk => by
    by_cases c : k = qs.length + 1
    · rw [c, serS_end]; exact Dq.zero
    · exact g.g k k1 (by omega)⟩
  rw [serS_app, List.length_append]
  exact g'.set e0 ea hq (by omega)
theorem serS_pop {qs : List Rat} : EqTo (qs.dropLast.length + 1) (serS qs.dropLast) (serS qs) := fun k hk => by
  match k with
  | 0 => rfl
  | k + 1 =>
    show qs.dropLast.getD k 0 = qs.getD k 0
    rw [List.getD_eq_getElem?_getD, List.getD_eq_getElem?_getD, List.getElem?_dropLast, if_pos (by rw [List.length_dropLast] at hk; omega)]
theorem SzR.pop {a b : Nat} {qs : List Rat} (h : SzR a b qs) : SzR a b qs.dropLast := by
  obtain ⟨E, m, e0, ea, mb, g⟩ := h
  exact ⟨E, m, e0, ea, mb, (g.cut (by rw [List.length_dropLast]; omega)).cg serS_pop⟩
theorem SzR.cmp {a b a' b' : Nat} {us fs : List Rat} (hu : SzR a b us) (hf : SzR a' b' fs) (l : us.length = fs.length) (l8 : us.length ≤ 15) : SzR (a + a') (b + b' + a + 10) (cmpL us fs) := by
  obtain ⟨E, m, e0, ea, mb, g⟩ := hu
  obtain ⟨E', m', e0', ea', mb', g'⟩ := hf
  refine ⟨E * E', m + m' + a + 10, Nat.mul_pos e0 e0', by rw [Nat.pow_add]; exact Nat.mul_le_mul ea ea', by omega, ?_⟩
  rw [cmpL_eq rfl (fun _ _ => rfl) (fun _ _ => rfl), toT_len]
  rw [← l] at g'
  exact (g.cmp g' l8 e0 a ea).cg (serS_toT (by rw [cmpS_zero]; rfl))
theorem szR_x {n : Nat} (h : 1 ≤ n) : SzR 0 1 (stL n) := by
  rw [stL_T h]
  exact ⟨1, 1, by decide, by decide, by decide, by rw [toT_len]; exact gw_x.cg (serS_toT rfl)⟩
/-! ### four lists of a list, spoilt one by one -/
/-- lists of numbers, each new and none twice -/
theorem lc_rowsD {K : PySem.W.Frag} {J : It} {n : Nat} {G : Hp → Prop} {Y : Nat → Hp → V → Hp → Prop} (w : Walk J n G Y) {g : TG} {te : TE} {vs : List Nat} {σ : L2.St} {H1 : Hp} {D : Addr} {Qd : Hp → Prop} (rows : List (List Rat))
    (hl : rows.length = n) (nD : H1 D = none) (hn : n ≤ 900) (hG : ∀ H, Same H1 H → G H)
    (hs : ∀ i r x H H' (k : V → Hp → Prop), rows[i]? = some r → Same H1 H → Y i H x H' → (∀ b H4, Same H H4 → H b = none → H4 b ≠ none → Ls K H4 (.ref b) r → k (.ref b) H4) → g x (wipe σ vs) H' fun σ2 H2 => wipe σ2 vs = wipe σ vs ∧ te σ2 H2 k)
    (hd : ∀ H xs, Same H1 H → H D = some (.lst xs) → Lsl K H xs rows → xs.Nodup → (∀ x ∈ xs, ∃ a, x = .ref a ∧ a ≠ D ∧ H1 a = none) → Qd H) :
    ∃ W : Nat → Nat → Hp → Prop, (∃ m, W 0 m (upd H1 D (.lst []))) ∧ ∀ i m H, W i m H →
      (J.stop i H ∧ Qd H) ∨ (J.go i H ∧ ∃ Nx : Hp → Prop, (∀ H', Nx H' → ∃ m', m' < m ∧ W (i + 1) m' H') ∧ ∀ x H', J.yld i H x H' → g x (wipe σ vs) H' fun σ2 H2 => wipe σ2 vs = wipe σ vs ∧ tYes σ2 H2 fun b H3 =>
        if b = true then te σ2 H3 fun y H4 => ∃ acc, H4 D = some (.lst acc) ∧ acc.length < sizeLine ∧ Nx (upd H4 D (.lst (acc ++ [y]))) else Nx H3) := by
  refine lc_it w (fun i H => Same H1 H ∧ ∃ xs, H D = some (.lst xs) ∧ xs.length = i ∧ xs.Nodup ∧ (∀ x ∈ xs, ∃ a, x = .ref a ∧ a ≠ D ∧ H1 a = none ∧ H a ≠ none) ∧ ∀ (j : Nat) y r, xs[j]? = some y → rows[j]? = some r → Ls K H y r) ⟨new_same nD _, [], upd_same, rfl, List.nodup_nil, fun _ h => (List.not_mem_nil h).elim, fun j y r h _ => by simp at h⟩ (fun i H _ h => hG H h.1) ?_ ?_
  · rintro i x H H' hi ⟨s1, xs, hx, hl', hn', ha, hR⟩ y
    have er := List.getElem?_eq_getElem (l := rows) (i := i) (by omega)
    have z := hs i _ x H H' (fun y H4 => ∃ acc, H4 D = some (.lst acc) ∧ acc.length < sizeLine ∧ (Same H1 (upd H4 D (.lst (acc ++ [y]))) ∧ ∃ xs, (upd H4 D (.lst (acc ++ [y]))) D = some (.lst xs) ∧ xs.length = i + 1 ∧ xs.Nodup ∧ (∀ x ∈ xs, ∃ a, x = .ref a ∧ a ≠ D ∧ H1 a = none ∧ (upd H4 D (.lst (acc ++ [y]))) a ≠ none) ∧ ∀ (j : Nat) z r, xs[j]? = some z → rows[j]? = some r → Ls K (upd H4 D (.lst (acc ++ [y]))) z r)) er s1 y (fun b H4 s4 nb hb r4 => ?_)
    · exact z
    · have h4 := s4 _ _ hx
      have bD : b ≠ D := fun z => by rw [z, hx] at nb; cases nb
      have sm : But D H4 (upd H4 D (.lst (xs ++ [.ref b]))) := fun e o n h => by rw [upd_ne n]; exact h
      refine ⟨xs, h4, small1000 (by omega), fun e o h => ?_, xs ++ [.ref b], upd_same, by rw [List.length_append, hl']; rfl, ?_, fun x hx' => ?_, fun j z r hz hr => ?_⟩
      · rw [upd_ne (ne_of_none h nD)]
        exact s4 _ _ (s1 _ _ h)
      · refine List.nodup_append.mpr ⟨hn', List.nodup_cons.mpr ⟨List.not_mem_nil, List.nodup_nil⟩, fun p hp q hq => ?_⟩
        rw [List.mem_singleton.mp hq]
        rintro rfl
        obtain ⟨a, ea, _, _, na⟩ := ha _ hp
        rw [V.ref.inj ea] at nb
        exact na nb
      · rcases List.mem_append.mp hx' with hp | hq
        · obtain ⟨a, ea, aD, n1, na⟩ := ha _ hp
          refine ⟨a, ea, aD, n1, ?_⟩
          rw [upd_ne aD]
          cases e : H a with
          | none => exact absurd e na
          | some o => rw [s4 _ _ e]; intro z; cases z
        · rw [List.mem_singleton.mp hq]
          refine ⟨b, rfl, bD, ?_, by rw [upd_ne bD]; exact hb⟩
          cases e : H1 b with
          | none => rfl
          | some o => rw [s1 _ _ e] at nb; cases nb
      · by_cases c : j < xs.length
        · rw [List.getElem?_append_left c] at hz
          refine ((hR j z r hz hr).same s4).butL h4 ?_ sm
          obtain ⟨a, ea, aD, _⟩ := ha z (List.mem_of_getElem? hz)
          rw [ea]
          exact fun q => aD (V.ref.inj q)
        · rw [List.getElem?_append_right (by omega)] at hz
          match hj : j - xs.length, hz with
          | 0, hz =>
            rw [← Option.some.inj (show some (V.ref b) = some z from hz)]
            obtain rfl : j = i := by omega
            rw [er] at hr
            rw [← Option.some.inj hr]
            exact r4.butL h4 (fun q => bD (V.ref.inj q)) sm
          | _ + 1, hz => simp at hz
  · rintro H ⟨s1, xs, hx, hl', hn', ha, hR⟩
    exact hd H xs s1 hx ⟨by omega, fun i x q h1 h2 => hR i x q h1 h2⟩ hn' fun x hx => by
      obtain ⟨a, ea, aD, n1, _⟩ := ha x hx
      exact ⟨a, ea, aD, n1⟩
theorem Nl.setD {K : PySem.W.Frag} {H : Hp} {D : Addr} {ys : List V} {rs : List Rat} {y : V} {r : Rat} {i : Nat} (h : Nl K H ys rs) (hD : H D = some (.lst ys)) (hy : Nq K H y r) : Nl K (upd H D (.lst (ys.set i y))) (ys.set i y) (rs.set i r) := by
  have bu : But D H (upd H D (.lst (ys.set i y))) := fun b o n h => by rw [upd_ne n]; exact h
  refine ⟨by rw [List.length_set, List.length_set, h.1], fun a x z h1 h2 => ?_⟩
  rw [List.getElem?_set] at h1 h2
  by_cases c' : i = a
  · subst c'
    rw [if_pos rfl] at h1 h2
    by_cases l : i < ys.length
    · rw [if_pos l] at h1
      rw [if_pos (by rw [← h.1]; exact l)] at h2
      rw [← Option.some.inj h1, ← Option.some.inj h2]
      exact hy.butL hD bu
    · rw [if_neg l] at h1
      cases h1
  · rw [if_neg c'] at h1 h2
    exact (h.2 a x z h1 h2).butL hD bu
theorem Nl.dropD {K : PySem.W.Frag} {H : Hp} {D : Addr} {ys : List V} {rs : List Rat} (h : Nl K H ys rs) (hD : H D = some (.lst ys)) : Nl K (upd H D (.lst ys.dropLast)) ys.dropLast rs.dropLast := by
  have bu : But D H (upd H D (.lst ys.dropLast)) := fun b o n h => by rw [upd_ne n]; exact h
  refine ⟨by rw [List.length_dropLast, List.length_dropLast, h.1], fun a x z h1 h2 => ?_⟩
  rw [List.getElem?_dropLast] at h1 h2
  split at h1
  · rw [if_pos (by rw [← h.1]; assumption)] at h2
    exact (h.2 a x z h1 h2).butL hD bu
  · cases h1
structure S4 (K : PySem.W.Frag) (m : Nat) (B p e : Addr) (H G : Hp) (xs : List V) (rows : List (List Rat)) : Prop where
  b : Bag m G B p
  u : But B H G
  ne : H e = none
  eB : e ≠ B
  ep : e ≠ p
  he : G e = some (.lst xs)
  l : ∀ (k : Nat) x r, xs[k]? = some x → rows[k]? = some r → ∃ a, x = .ref a ∧ a ≠ e ∧ a ≠ B ∧ a ≠ p ∧ H a = none ∧ Ls K G (.ref a) (0 :: r)
  l4 : xs.length = 4
  r4 : rows.length = 4
  lo : ∀ r ∈ rows, 2 ≤ r.length
theorem S4.less {K : PySem.W.Frag} {m m' : Nat} {B p e : Addr} {H G : Hp} {xs : List V} {rows : List (List Rat)} (s : S4 K m B p e H G xs rows) (h : m' ≤ m) : S4 K m' B p e H G xs rows := ⟨s.b.less h, s.u, s.ne, s.eB, s.ep, s.he, s.l, s.l4, s.r4, s.lo⟩
theorem S4.at {K : PySem.W.Frag} {m : Nat} {B p e : Addr} {H G : Hp} {xs : List V} {rows : List (List Rat)} (s : S4 K m B p e H G xs rows) {k : Nat} (hk : k < 4) : ∃ a ys r, xs[k]? = some (.ref a) ∧ rows[k]? = some r ∧ r ∈ rows ∧ a ≠ e ∧ a ≠ B ∧ a ≠ p ∧ H a = none ∧ G a = some (.lst ys) ∧ Nl K G ys (0 :: r) := by
  have e1 := List.getElem?_eq_getElem (l := xs) (i := k) (by rw [s.l4]; exact hk)
  have e2 := List.getElem?_eq_getElem (l := rows) (i := k) (by rw [s.r4]; exact hk)
  obtain ⟨a, ea, ae, aB, ap, na, l⟩ := s.l k _ _ e1 e2
  obtain ⟨b, ys, eb, hb, ny⟩ := l
  rw [V.ref.inj eb] at ea ae aB ap na
  exact ⟨b, ys, _, by rw [e1, ea], e2, List.getElem_mem _, ae, aB, ap, na, hb, ny⟩
theorem S4.go {K : PySem.W.Frag} {m m' : Nat} {B p e : Addr} {H G G' : Hp} {xs : List V} {rows : List (List Rat)} (s : S4 K m B p e H G xs rows) (b : Bag m' G' B p) (u : But B G G') : S4 K m' B p e H G' xs rows :=
  ⟨b, s.u.trans u, s.ne, s.eB, s.ep, u _ _ s.eB s.he, fun k x r h1 h2 => by
    obtain ⟨a, ea, ae, aB, ap, na, l⟩ := s.l k x r h1 h2
    have := s.lo r (List.mem_of_getElem? h2)
    exact ⟨a, ea, ae, aB, ap, na, l.go (by rw [List.length_cons]; omega) s.b (Go.of u)⟩, s.l4, s.r4, s.lo⟩
theorem S4.same {K : PySem.W.Frag} {m : Nat} {B p e : Addr} {H G G' : Hp} {xs : List V} {rows : List (List Rat)} (s : S4 K m B p e H G xs rows) (h : Same G G') : S4 K m B p e H G' xs rows := s.go (s.b.same h) (But.same h)
/-- a list changed in its place -/
theorem S4.mut {K : PySem.W.Frag} {m : Nat} {B p e a : Addr} {H G : Hp} {xs : List V} {rows : List (List Rat)} {k : Nat} {ys ys' : List V} {r' : List Rat} (s : S4 K m B p e H G xs rows) (d : xs.Nodup) (hk : xs[k]? = some (.ref a)) (ha : G a = some (.lst ys)) (ae : a ≠ e) (aB : a ≠ B) (ap : a ≠ p) (na : H a = none) (nl : Nl K (upd G a (.lst ys')) ys' (0 :: r')) (lo : 2 ≤ r'.length) : S4 K m B p e H (upd G a (.lst ys')) xs (rows.set k r') := by
  have bu : But a G (upd G a (.lst ys')) := fun b o n h => by rw [upd_ne n]; exact h
  refine ⟨s.b.upd aB ap, fun b o hb ho => ?_, s.ne, s.eB, s.ep, by rw [upd_ne (fun z => ae z.symm)]; exact s.he, fun j x r h1 h2 => ?_, s.l4, by rw [List.length_set]; exact s.r4, fun r hr => ?_⟩
  · rw [upd_ne (fun z => by rw [z, na] at ho; cases ho)]
    exact s.u _ _ hb ho
  · rw [List.getElem?_set] at h2
    by_cases c : k = j
    · subst c
      rw [if_pos rfl] at h2
      rw [hk] at h1
      obtain rfl := Option.some.inj h1
      split at h2
      · rw [← Option.some.inj h2]
        exact ⟨a, rfl, ae, aB, ap, na, a, ys', rfl, upd_same, nl⟩
      · cases h2
    · rw [if_neg c] at h2
      obtain ⟨a', ea, ae', aB', ap', na', l⟩ := s.l j x r h1 h2
      refine ⟨a', ea, ae', aB', ap', na', l.butL ha (fun z => ?_) bu⟩
      rw [ea, V.ref.inj z] at h1
      exact c ((List.getElem?_inj (by rw [s.l4]; have := (List.getElem?_eq_some_iff.mp hk).1; rw [s.l4] at this; exact this) d).mp (by rw [hk, h1]))
  · rcases List.mem_or_eq_of_mem_set hr with hr | rfl
    · exact s.lo r hr
    · exact lo
/-- another list at a place -/
theorem S4.put {K : PySem.W.Frag} {m : Nat} {B p e a : Addr} {H G : Hp} {xs : List V} {rows : List (List Rat)} {k : Nat} {r' : List Rat} (s : S4 K m B p e H G xs rows) (ae : a ≠ e) (aB : a ≠ B) (ap : a ≠ p) (na : H a = none) (nl : Ls K G (.ref a) (0 :: r')) (lo : 2 ≤ r'.length) : S4 K m B p e H (upd G e (.lst (xs.set k (.ref a)))) (xs.set k (.ref a)) (rows.set k r') := by
  have bu : But e G (upd G e (.lst (xs.set k (.ref a)))) := fun b o n h => by rw [upd_ne n]; exact h
  refine ⟨s.b.upd s.eB s.ep, fun b o hb ho => ?_, s.ne, s.eB, s.ep, upd_same, fun j x r h1 h2 => ?_, by rw [List.length_set]; exact s.l4, by rw [List.length_set]; exact s.r4, fun r hr => ?_⟩
  · rw [upd_ne (fun z => by rw [z, s.ne] at ho; cases ho)]
    exact s.u _ _ hb ho
  · rw [List.getElem?_set] at h1 h2
    by_cases c : k = j
    · subst c
      rw [if_pos rfl] at h1 h2
      split at h1
      · split at h2
        · rw [← Option.some.inj h2, ← Option.some.inj h1]
          exact ⟨a, rfl, ae, aB, ap, na, nl.butL s.he (fun z => ae (V.ref.inj z)) bu⟩
        · cases h2
      · cases h1
    · rw [if_neg c] at h1 h2
      obtain ⟨a', ea, ae', aB', ap', na', l⟩ := s.l j x r h1 h2
      exact ⟨a', ea, ae', aB', ap', na', l.butL s.he (fun z => ae' (V.ref.inj z)) bu⟩
  · rcases List.mem_or_eq_of_mem_set hr with hr | rfl
    · exact s.lo r hr
    · exact lo
theorem S4.f4 {K : PySem.W.Frag} {m j : Nat} {B p e : Addr} {H G : Hp} {xs : List V} {rows : List (List Rat)} (s : S4 K m B p e H G xs rows) (q : ∀ r ∈ rows, QOk j r) : ∃ f s u h, F4 K G j e f s u h := by
  obtain ⟨x0, x1, x2, x3, rfl⟩ : ∃ x0 x1 x2 x3, xs = [x0, x1, x2, x3] := by
    match xs, s.l4 with
    | [x0, x1, x2, x3], _ => exact ⟨_, _, _, _, rfl⟩
  obtain ⟨r0, r1, r2, r3, rfl⟩ : ∃ x0 x1 x2 x3, rows = [x0, x1, x2, x3] := by
    match rows, s.r4 with
    | [x0, x1, x2, x3], _ => exact ⟨_, _, _, _, rfl⟩
  have w : ∀ (k : Nat) x r, [x0, x1, x2, x3][k]? = some x → [r0, r1, r2, r3][k]? = some r → Ls K G x (0 :: r) := fun k x r h1 h2 => by
    obtain ⟨a, ea, _, _, _, _, l⟩ := s.l k x r h1 h2
    rw [ea]
    exact l
  exact ⟨r0, r1, r2, r3, ⟨x0, x1, x2, x3, s.he, w 0 _ _ rfl rfl, w 1 _ _ rfl rfl, w 2 _ _ rfl rfl, w 3 _ _ rfl rfl⟩, q _ (by simp), q _ (by simp), q _ (by simp), q _ (by simp)⟩
end Kx
end
section
set_option maxHeartbeats 4000000
namespace Kx
open PySem PySem.Spec PyProof.Rows L2 RZ
/-! ### four lists spoilt -/
def spSpt (K : PySem.W.Frag) : Sp := fun vs H Q _ => ∃ (n : Nat) (B p a : Addr) (j : Nat) (f s u h : List Rat), vs = [.ref B, .ref a] ∧ Bag (n + 10) H B p ∧ F4 K H j a f s u h ∧ j ≤ 1 ∧ a ≠ B ∧ ∀ H' b f' s' u' h', Bag n H' B p → But B H H' → b ≠ B → F4 K H' (j + 1) b f' s' u' h' → Q (.ref b) H'
theorem lof_at {X : Cx} (K : PySem.W.Frag) (h : X.K = K) : CallR X (.type "list") (fun xs H Q => ∃ (p : Addr) (ys : List V), xs = [V.ref p] ∧ (SqL K H p ys ∨ SqT K H p ys) ∧ ∀ l, H l = none → Q (V.ref l) (upd H l (.lst ys))) := by
  subst h
  exact call_list_of
theorem bl_of : ∀ (zs : List V) {P : Nat → Bool → Prop}, (∀ (i : Nat) y, zs[i]? = some y → ∃ b, y = .bl b ∧ P i b) → ∃ bs : List Bool, zs = bs.map V.bl ∧ ∀ (i : Nat) b, bs[i]? = some b → P i b
  | [], _, _ => ⟨[], rfl, fun i b h => by simp at h⟩
  | z :: zs, P, h => by
    obtain ⟨b, rfl, pb⟩ := h 0 z rfl
    obtain ⟨bs, rfl, g⟩ := bl_of zs (P := fun i => P (i + 1)) fun i y e => h (i + 1) y e
    refine ⟨b :: bs, rfl, fun i c e => ?_⟩
    match i, e with
    | 0, e => rw [← Option.some.inj e]; exact pb
    | i + 1, e => exact g i c e
theorem all_get {bs : List Bool} (h : bs.all id = true) {i : Nat} {b : Bool} (e : bs[i]? = some b) : b = true := List.all_eq_true.mp h b (List.mem_of_getElem? e)
theorem ixN_of {n i : Nat} (h : i < n) : ixN n (i : Int) = some i := by
  unfold ixN
  rw [if_pos (by omega), if_pos (by omega)]
  congr 1
abbrev nSpo : List Str := ["_law_bag_here", "_law_four", "_law_found", "_law_f", "_law_way", "_law_at_y", "_law_j", "_law_spot"]
section
variable {P : Program} {w : World} {K : PySem.W.Frag} {mg : Str → Option Value} {base : Heap} {f o0 : Addr} {fd : FuncData}
theorem scSpo : FnScope nSpo ["_law_bag_here", "_law_four"] (defScope L_spoilt) := ⟨rfl, rfl, rfl, by decide +kernel, rfl, by decide +kernel, by decide +kernel⟩
theorem ok_spoilt (F : Fun K "_law_spoilt" "_law_spoilt" L_spoilt f fd) (mn : mg "len" = none) (ma : mg "all" = none) (ml : mg "list" = none) (UD : Use P w K mg base CX0 1 "_law_draw" ["_law_bag_here", "_law_many_y"] spDraw []) (UX : Use P w K mg base CX0 1 "_law_x" ["_law_deg"] (spX K) []) (UA : Use P w K mg base CX0 2 "_law_add" ["_law_p", "_law_q"] (spTwoQ K (· + ·)) []) (UN : Use P w K mg base CX0 2 "_law_num" ["_law_bag_here"] (spNum K 3 NumQ) []) (UN0 : Use P w K mg base CX0 3 "_law_not0" ["_law_bag_here"] (spNum K 4 NumZ) []) (UP : Use P w K mg base CX0 2 "_law_put" ["_law_u", "_law_f"] (spPutL K) []) : FnOk P w K mg base CX0 4 f fd ["_law_bag_here", "_law_four"] (spSpt K) := by
  refine F.ok scSpo (fun vs H Q E h => ?_) (fun cdv A outer s H vs Q E hr h => ?_)
  · obtain ⟨n, B, p, a, j, f, s, u, h, rfl, _⟩ := h
    rfl
  obtain ⟨n, B, p, a, j, ff, ss, uu, hh, rfl, hb, h4, j1, aB, q⟩ := h
  have hr1 := hr.mono (show 1 ≤ 3 by decide)
  have hr2 := hr.mono (show 2 ≤ 3 by decide)
  have hr3 := hr
  refine ⟨_, (C8.pss_cut (ps_set (i := 2) scSpo.nd rfl (Or.inr rfl) (pe_lc (own := [("_law_f", 3)]) (g := gName 3) (tt := tYes) rfl scSpo.nd (pi_list (pv 1)) (blkOk_by (N := nSpo) (sc := defScope L_spoilt) (by decide +kernel)) (fun _ _ _ _ _ => pg_name (i := 3) scSpo.nd rfl (Or.inl rfl)) (fun _ _ _ _ _ => pts_nil) (fun _ _ _ _ _ => (pe_callTy (lof_at K rfl) rfl ml boot_list (pa_cons (pv 3) pa_nil)))))
    (C8.pss_cut (ps_par (i := 4) (j := 5) rfl scSpo.nd rfl rfl (by decide) rfl rfl (pa_cons (pe_use UD hr1 rfl pass0 (pa_cons (pv 0) (pa_cons pe_int pa_nil))) (pa_cons (pe_use UD hr1 rfl pass0 (pa_cons (pv 0) (pa_cons pe_int pa_nil))) pa_nil)) rfl)
    (C8.pss_cut (ps_if (PW.pt (pw_and (pt_cmpR op_gt (pv 4) pe_int (nomark _)) (pw_and1 (pt_val (pe_callB (cr_all rfl) rfl ma (by decide +kernel) (pa_cons (pe_lc (own := [("_law_f", 3)]) (g := gName 3) (tt := tYes) rfl scSpo.nd (pi_list (pv 2)) (blkOk_by (N := nSpo) (sc := defScope L_spoilt) (by decide +kernel)) (fun _ _ _ _ _ => pg_name (i := 3) scSpo.nd rfl (Or.inl rfl)) (fun _ _ _ _ _ => pts_nil) (fun _ _ _ _ _ => (pe_cmpR op_eq (pe_callB (le_at K rfl) rfl mn PySem.boot_len (pa_cons (pv 3) pa_nil)) (pe_callB (le_at K rfl) rfl mn PySem.boot_len (pa_cons (pe_ix (ixl_at K rfl) (pv 2) pe_int (fun _ _ => rfl)) pa_nil)) (nomark _)))) pa_nil)))))) (C8.pss_cut (ps_set (i := 6) scSpo.nd rfl (Or.inl rfl) (pe_op op_add pe_int (pe_use UD hr1 rfl pass0 (pa_cons (pv 0) (pa_cons (pe_op op_sub (pe_callB call_len_seq rfl mn PySem.boot_len (pa_cons (pe_ix ix_list (pv 2) pe_int (fun _ _ => rfl)) pa_nil)) pe_int) pa_nil)))))
    (C8.pss_cut (ps_asg (pe_use UA hr2 rfl pass0 (pa_cons (pe_ix ix_list (pe_ix ix_list (pv 2) pe_int (fun _ _ => rfl)) (pv 6) (fun _ _ => rfl)) (pa_cons (pe_use UN0 hr3 rfl pass0 (pa_cons (pv 0) pa_nil)) pa_nil))) (pg_sub (pe_ix ix_list (pv 2) pe_int (fun _ _ => rfl)) (pv 6) set_list))
    (C8.pss_cut (ps_if (pt_cmpR op_eq (pv 4) pe_int (nomark _)) (pss_one (ps_asg (pe_tup (pa_cons (pe_use UP hr2 rfl pass0 (pa_cons (pe_ix ix_list (pv 2) pe_int (fun _ _ => rfl)) (pa_cons (pe_ix ix_list (pv 2) pe_int (fun _ _ => rfl)) pa_nil))) (pa_cons (pe_use UX hr1 rfl pass0 (pa_cons (pe_op op_sub (pe_callB call_len_seq rfl mn PySem.boot_len (pa_cons (pe_ix ix_list (pv 2) pe_int (fun _ _ => rfl)) pa_nil)) pe_int) pa_nil)) pa_nil))) (pg_tup rfl (pgs_cons (pg_sub (pv 2) pe_int set_list) (pgs_cons (pg_sub (pv 2) pe_int set_list) pgs_nil))))) pss_nil)
    (C8.pss_cut (ps_asg (pe_ifExp (pt_cmpR op_gt (pv 4) pe_int (nomark _)) (pe_use UP hr2 rfl pass0 (pa_cons (pe_ix ix_list (pv 2) pe_int (fun _ _ => rfl)) (pa_cons (pe_ix ix_list (pv 2) pe_int (fun _ _ => rfl)) pa_nil))) (pe_use UP hr2 rfl pass0 (pa_cons (pe_ix ix_list (pv 2) pe_int (fun _ _ => rfl)) (pa_cons (pe_ix ix_list (pv 2) pe_int (fun _ _ => rfl)) pa_nil)))) (pg_sub (pv 2) pe_int set_list))
    (pss_one (ps_ret (pv 2))))))) pss_nil)
    (C8.pss_cut (ps_if (pt_cmpR op_eq (pv 4) pe_int (nomark _)) (pss_one (ps_ret (pe_lst (pa_cons (pe_ix ix_list (pv 2) pe_int (fun _ _ => rfl)) (pa_cons (pe_ix ix_list (pv 2) pe_int (fun _ _ => rfl)) (pa_cons (pe_ix ix_list (pv 2) pe_int (fun _ _ => rfl)) (pa_cons (pe_ix ix_list (pv 2) pe_int (fun _ _ => rfl)) pa_nil))))))) pss_nil)
    (C8.pss_cut (ps_if (pt_cmpR op_eq (pv 4) pe_int (nomark _)) (pss_one (ps_asg (pe_op op_cat (pe_ix ix_list (pv 2) (pv 5) (fun _ _ => rfl)) (pe_lst (pa_cons (pe_use UN hr2 rfl pass0 (pa_cons (pv 0) pa_nil)) pa_nil))) (pg_sub (pv 2) (pv 5) set_list))) (pss_one (ps_if (PW.pt (pw_and (pt_cmpR op_eq (pv 4) pe_int (nomark _)) (pw_and1 (pt_cmpR op_gt (pe_callB call_len_seq rfl mn PySem.boot_len (pa_cons (pe_ix ix_list (pv 2) (pv 5) (fun _ _ => rfl)) pa_nil)) pe_int (nomark _))))) (pss_one (ps_expr (pe_bm0 PySem.F.plainAttrs_list PySem.F.slot_list_pop PySem.F.type_list_pop mt_pop (pe_ix ix_list (pv 2) (pv 5) (fun _ _ => rfl))))) (pss_one (ps_if (pt_cmpR op_eq (pv 4) pe_int (nomark _)) (C8.pss_cut (ps_asg (pe_tup (pa_cons pe_int (pa_cons pe_int pa_nil))) (pg_sub (pe_ix ix_list (pv 2) pe_int (fun _ _ => rfl)) pe_int set_list))
    (pss_one (ps_if (pt_cmpR op_eq (pe_use UD hr1 rfl pass0 (pa_cons (pv 0) (pa_cons pe_int pa_nil))) pe_int (nomark _)) (pss_one (ps_asg (pe_use UN0 hr3 rfl pass0 (pa_cons (pv 0) pa_nil)) (pg_sub (pe_ix ix_list (pv 2) pe_int (fun _ _ => rfl)) pe_int set_list))) pss_nil))) (C8.pss_cut (ps_set (i := 7) scSpo.nd rfl (Or.inl rfl) (pe_op op_add pe_int (pe_use UD hr1 rfl pass0 (pa_cons (pv 0) (pa_cons (pe_op op_sub (pe_callB call_len_seq rfl mn PySem.boot_len (pa_cons (pe_ix ix_list (pv 2) (pv 5) (fun _ _ => rfl)) pa_nil)) pe_int) pa_nil)))))
    (pss_one (ps_asg (pe_use UA hr2 rfl pass0 (pa_cons (pe_ix ix_list (pe_ix ix_list (pv 2) (pv 5) (fun _ _ => rfl)) (pv 7) (fun _ _ => rfl)) (pa_cons (pe_use UN0 hr3 rfl pass0 (pa_cons (pv 0) pa_nil)) pa_nil))) (pg_sub (pe_ix ix_list (pv 2) (pv 5) (fun _ _ => rfl)) (pv 7) set_list)))))))))
    (pss_one (ps_ret (pv 2)))))))), ?_⟩
  obtain ⟨⟨v1, v2, v3, v4, ha, l1, l2, l3, l4⟩, qf, qs, qu, qh⟩ := h4
  refine ⟨fun σ G => ∃ (e : Addr) (xs : List V), σ = [some (.ref B), some (.ref a), some (.ref e), none, none, none, none, none] ∧ S4 K (n + 10) B p e H G xs [ff, ss, uu, hh] ∧ xs.Nodup, ?_, ?_⟩
  · refine ⟨_, rfl, a, rfl, ⟨_, SqL.of ha⟩, fun D nD => ?_⟩
    have DB := hb.at nD
    refine lc_rowsD (K := K) (walk_list (K := K) (a := a) (xs := [v1, v2, v3, v4])) [0 :: ff, 0 :: ss, 0 :: uu, 0 :: hh] rfl nD (by show 4 ≤ 900; decide) (fun H2 s2 => SqL.of (s2 _ _ ha)) ?_ ?_
    · rintro i r x H2 H3 kk er s2 ⟨rfl, hz⟩ hk
      have lx : Ls K H3 x r := by
        have hz : [v1, v2, v3, v4][i]? = some x := hz
        match i, er, hz with
        | 0, er, hz =>
          rw [← Option.some.inj er, ← Option.some.inj hz]
          exact l1.same s2
        | 1, er, hz =>
          rw [← Option.some.inj er, ← Option.some.inj hz]
          exact l2.same s2
        | 2, er, hz =>
          rw [← Option.some.inj er, ← Option.some.inj hz]
          exact l3.same s2
        | 3, er, hz =>
          rw [← Option.some.inj er, ← Option.some.inj hz]
          exact l4.same s2
      obtain ⟨b, ys, rfl, hb', ny⟩ := lx
      exact ⟨rfl, _, rfl, b, ys, rfl, .inl (SqL.of hb'), fun c nc => hk c _ (new_same nc _) nc (by rw [upd_same]; intro z; cases z) ⟨c, ys, rfl, upd_same, ny.same (new_same nc _)⟩⟩
    · intro H2 xs s2 hD lx nd hx
      have lxs : xs.length = 4 := lx.1
      refine ⟨D, xs, rfl, ⟨hb.same s2, But.same s2, nD, DB.1, DB.2, hD, fun k x r h1 h2 => ?_, lxs, rfl, fun r hr => ?_⟩, nd⟩
      · obtain ⟨c, rfl, cD, nc⟩ := hx x (List.mem_of_getElem? h1)
        have cB := hb.at nc
        refine ⟨c, rfl, cD, cB.1, cB.2, nc, lx.2 k _ _ h1 ?_⟩
        have h2 : [ff, ss, uu, hh][k]? = some r := h2
        show ([ff, ss, uu, hh].map (0 :: ·))[k]? = some (0 :: r)
        rw [List.getElem?_map, h2]
        rfl
      · simp only [List.mem_cons, List.not_mem_nil, or_false] at hr
        rcases hr with rfl | rfl | rfl | rfl
        · exact qf.lo
        · exact qs.lo
        · exact qu.lo
        · exact qh.lo
  rintro σ G ⟨e, xs, rfl, s4, nd⟩
  clear hb
  refine ⟨fun σ G => ∃ (way k : Nat), σ = [some (.ref B), some (.ref a), some (.ref e), none, some (.int (way : Nat)), some (.int (k : Nat)), none, none] ∧ S4 K (n + 8) B p e H G xs [ff, ss, uu, hh] ∧ k < 4, ?_, ?_⟩
  · refine ⟨_, rfl, n + 9, B, p, 12, rfl, by decide, by decide, s4.b, fun H2 w0 b2 u2 w1 w2 => ?_⟩
    refine ⟨_, rfl, n + 8, B, p, 4, rfl, by decide, by decide, b2, fun H3 k0 b3 u3 k1 k2 => ?_⟩
    obtain ⟨way, rfl⟩ : ∃ z : Nat, w0 = (z : Int) := ⟨w0.toNat, by omega⟩
    obtain ⟨k, rfl⟩ : ∃ z : Nat, k0 = (z : Int) := ⟨k0.toNat, by omega⟩
    exact ⟨_, _, rfl, way, k, rfl, (s4.go b2 u2).go b3 u3, by omega⟩
  rintro σ G1 ⟨way, k, rfl, s4, k4⟩
  have qall : ∀ r ∈ [ff, ss, uu, hh], QOk j r := fun r hr => by
    simp only [List.mem_cons, List.not_mem_nil, or_false] at hr
    rcases hr with rfl | rfl | rfl | rfl
    · exact qf
    · exact qs
    · exact qu
    · exact qh
  have qup : ∀ {r : List Rat}, QOk j r → QOk (j + 1) r := fun {r} h => by
    refine ⟨?_, h.lo, by have := h.hi; omega⟩
    rcases (show j = 0 ∨ j = 1 by omega) with rfl | rfl
    · exact h.z.u01
    · exact h.z.u12
  refine ⟨fun σ G => σ = [some (.ref B), some (.ref a), some (.ref e), none, some (.int (way : Nat)), some (.int (k : Nat)), none, none] ∧ S4 K (n + 8) B p e H G xs [ff, ss, uu, hh], ?_, ?_⟩
  · obtain ⟨x0, x1, x2, x3, rfl⟩ : ∃ x0 x1 x2 x3, xs = [x0, x1, x2, x3] := by
      match xs, s4.l4 with
      | [x0, x1, x2, x3], _ => exact ⟨_, _, _, _, rfl⟩
    have he := SqL.of (K := K) s4.he
    refine ⟨_, rfl, (way : Int), 8, rfl, rfl, _, rfl, ite2 (fun c8 => ?_) (fun _ => ⟨rfl, s4⟩)⟩
    refine ⟨_, rfl, e, rfl, ⟨_, he⟩, fun Da nD => ?_⟩
    refine lc_acc (walk_list (K := K) (a := e) (xs := [x0, x1, x2, x3])) (fun i _ y => ∃ b, y = .bl b ∧ (b = true → ∀ r, [ff, ss, uu, hh][i]? = some r → r.length = ff.length)) (fun i H H' y l h _ _ => h) nD (by show 4 ≤ 900; decide) (fun H2 s2 => SqL.of (s4.same s2).he) ?_ ?_
    · rintro i w' H2 H3 kk hi s3 ⟨rfl, hz⟩ hk
      have hi : i < 4 := hi
      have s5 := s4.same s3
      obtain ⟨a1, y1, r1, e1, f1, m1, _, _, _, _, h1, n1⟩ := s5.at hi
      obtain ⟨a0, y0, r0, e0, f0, m0, _, _, _, _, h0, n0⟩ := s5.at (k := 0) (by decide)
      rw [e1] at hz
      obtain rfl := Option.some.inj hz
      obtain rfl : x0 = .ref a0 := Option.some.inj e0
      refine ⟨rfl, _, rfl, a1, y1, rfl, .inl (SqL.of h1), _, rfl, e, _, 0, _, rfl, rfl, SqL.of s5.he, rfl, a0, y0, rfl, .inl (SqL.of h0), rfl, hk _ _ (Same.refl _) ⟨_, rfl, fun d r hr => ?_⟩⟩
      rw [f1] at hr
      obtain rfl := Option.some.inj hr
      obtain rfl : ff = r0 := Option.some.inj f0
      have d := V.int.inj (of_decide_eq_true d)
      have k1 : y1.length = r1.length + 1 := n1.1
      have k0 : y0.length = ff.length + 1 := n0.1
      omega
    intro H2 zs s2 hDa hlz hR
    obtain ⟨bs, rfl, hb⟩ := bl_of zs (P := fun i b => b = true → ∀ r, [ff, ss, uu, hh][i]? = some r → r.length = ff.length) hR
    have lbs : bs.length = 4 := by
      rw [List.length_map] at hlz
      exact hlz
    have s5 := s4.same s2
    refine ⟨Da, bs, rfl, SqL.of hDa, _, rfl, ite2 (fun ca => ?_) (fun _ => ⟨rfl, s5⟩)⟩
    have len : ∀ {r : List Rat} (i : Nat), [ff, ss, uu, hh][i]? = some r → i < 4 → r.length = ff.length := fun {r} i er hi => by
      have eb := List.getElem?_eq_getElem (l := bs) (i := i) (by rw [lbs]; exact hi)
      exact hb i _ eb (all_get ca eb) r er
    have ls : ss.length = ff.length := len 1 rfl (by decide)
    have lu : uu.length = ff.length := len 2 rfl (by decide)
    have lh : hh.length = ff.length := len 3 rfl (by decide)
    clear s4 hR hDa he s2
    have flo := qf.lo
    have fhi := qf.hi
    refine ⟨fun σ G => ∃ jj : Nat, σ = [some (.ref B), some (.ref a), some (.ref e), none, some (.int (way : Nat)), some (.int (k : Nat)), some (.int (jj : Nat)), none] ∧ S4 K (n + 7) B p e H G [x0, x1, x2, x3] [ff, ss, uu, hh] ∧ 2 ≤ jj ∧ jj ≤ ff.length, ?_, ?_⟩
    · obtain ⟨a2, y2, r2, e2, f2, m2, _, _, _, _, h2, n2⟩ := s5.at (k := 2) (by decide)
      obtain rfl : x2 = .ref a2 := Option.some.inj e2
      obtain rfl : uu = r2 := Option.some.inj f2
      have k2 : y2.length = uu.length + 1 := n2.1
      refine ⟨_, rfl, _, rfl, e, _, 2, _, rfl, rfl, SqL.of s5.he, rfl, a2, y2, rfl, .inl (SqL.of h2), (y2.length : Int), 2, rfl, rfl, n + 7, B, p, (y2.length : Int) - 2, rfl, by omega, by omega, s5.b, fun H4 z b4 u4 z0 z1 => ?_⟩
      obtain ⟨zn, rfl⟩ : ∃ zn : Nat, z = (zn : Int) := ⟨z.toNat, by omega⟩
      exact ⟨2, zn, rfl, rfl, 2 + zn, rfl, s5.go b4 u4, by omega, by omega⟩
    clear s5
    rintro σ G3 ⟨jj, rfl, s5, j2, jl⟩
    refine ⟨fun σ G => ∃ (v : Option V) (u' : List Rat), σ = [some (.ref B), some (.ref a), some (.ref e), none, some (.int (way : Nat)), some (.int (k : Nat)), v, none] ∧ S4 K (n + 3) B p e H G [x0, x1, x2, x3] [ff, ss, u', hh] ∧ u'.length = ff.length ∧ SzR (szA j + 6) (szB j + szA j + 17) u', ?_, ?_⟩
    · obtain ⟨a2, y2, r2, e2, f2, m2, ae, a2B, a2p, a2n, h2, n2⟩ := s5.at (k := 2) (by decide)
      obtain rfl : x2 = .ref a2 := Option.some.inj e2
      obtain rfl : uu = r2 := Option.some.inj f2
      have k2 : y2.length = uu.length + 1 := n2.1
      obtain ⟨y, ey, ny⟩ := n2.get' (i := jj) (by rw [List.length_cons]; omega)
      obtain ⟨i, rfl⟩ : ∃ i, jj = i + 1 := ⟨jj - 1, by omega⟩
      have ev : (0 :: uu)[i + 1]'(by rw [List.length_cons]; omega) = serS uu (i + 1) := by
        show uu[i]'(by omega) = uu.getD i 0
        rw [List.getD_eq_getElem?_getD, List.getElem?_eq_getElem (by omega)]
        rfl
      rw [ev] at ny
      refine ⟨_, rfl, e, _, 2, _, rfl, rfl, SqL.of s5.he, rfl, _, rfl, a2, y2, ((i + 1 : Nat) : Int), y, rfl, rfl, SqL.of h2, at_of (j := i + 1) rfl ey, _, rfl, n + 3, B, p, rfl, s5.b, fun H4 z r b4 u4 nz nr => ?_⟩
      have s6 := s5.go b4 u4
      have oka : Ok (serS uu (i + 1)) := by
        rw [← ev]
        exact ao0 (qu.z.all (by have := qu.hi; omega)) _ (List.getElem_mem _)
      refine ⟨y, z, _, r, rfl, ny.go s5.b (Go.of u4), nz, oka, nr.1.dq.ok ⟨by decide, Nat.lt_of_lt_of_le (show 60 < 2 ^ 6 by decide) (Nat.pow_le_pow_right (by decide) (by decide))⟩ (by decide), fun t H5 s7 nt et => ?_⟩
      have s8 := s6.same s7
      have h2' := s7 _ _ (u4 _ _ a2B h2)
      have n2' := (n2.go s5.b (Go.of u4)).same s7
      refine ⟨_, rfl, e, _, 2, _, rfl, rfl, SqL.of s8.he, rfl, _, rfl, a2, y2, _, i + 1, rfl, rfl, h2', ixN_of (by omega), _, uu.set i (serS uu (i + 1) + r), rfl, ?_, by rw [List.length_set, lu], qu.z.r.add (by omega) nr.1.dq⟩
      exact s8.mut (k := 2) nd rfl h2' ae a2B a2p a2n (n2'.setD h2' (.at et)) (by rw [List.length_set]; omega)
    clear s5 j2 jl
    rintro σ G4 ⟨v, u', rfl, s5, lu', zu'⟩
    have zs1 := (qup qs).z
    have zu1 : Sz (j + 1) u' := by
      rcases (show j = 0 ∨ j = 1 by omega) with rfl | rfl
      · exact zu'.up (by decide) (by decide)
      · exact zu'.up (by decide) (by decide)
    have hc1 : Sz (j + 1) (cmpL ss u') := by
      have := qs.z.r.cmp zu' (by omega) (by omega)
      rcases (show j = 0 ∨ j = 1 by omega) with rfl | rfl
      · exact this.up (by decide) (by decide)
      · exact this.up (by decide) (by decide)
    refine ⟨fun σ G => ∃ (xs' : List V) (p' u2 : List Rat), σ = [some (.ref B), some (.ref a), some (.ref e), none, some (.int (way : Nat)), some (.int (k : Nat)), v, none] ∧ S4 K (n + 3) B p e H G xs' [ff, p', u2, hh] ∧ p'.length = ff.length ∧ u2.length = ff.length ∧ Sz (j + 1) p' ∧ Sz (j + 1) u2 ∧ Sz (j + 1) (cmpL p' u2) ∧ Sz (j + 1) (cmpL u2 p'), ?_, ?_⟩
    · refine ⟨_, rfl, rfl, _, rfl, ite2 (fun _ => ?_) (fun _ => ⟨_, ss, u', rfl, s5, ls, lu', zs1, zu1, hc1, ?_⟩)⟩
      · obtain ⟨a1, y1, r1, e1, f1, m1, _, _, _, _, h1, n1⟩ := s5.at (k := 1) (by decide)
        obtain ⟨a2, y2, r2, e2, f2, m2, _, _, _, _, h2, n2⟩ := s5.at (k := 2) (by decide)
        obtain rfl : x1 = .ref a1 := Option.some.inj e1
        obtain rfl : x2 = .ref a2 := Option.some.inj e2
        obtain rfl : ss = r1 := Option.some.inj f1
        obtain rfl : u' = r2 := Option.some.inj f2
        have k2 : y2.length = u'.length + 1 := n2.1
        refine ⟨_, rfl, e, _, 1, _, rfl, rfl, SqL.of s5.he, rfl, _, rfl, e, _, 2, _, rfl, rfl, SqL.of s5.he, rfl, put_ofL (E := E) ⟨a1, y1, rfl, h1, n1⟩ ⟨a2, y2, rfl, h2, n2⟩ (by omega) (by omega) zs1 zu1 fun b H5 s6 nb hb lb => ?_⟩
        refine ⟨_, rfl, e, _, 2, _, rfl, rfl, SqL.of (s6 _ _ s5.he), rfl, a2, y2, rfl, .inl (SqL.of (s6 _ _ h2)), (y2.length : Int), 1, rfl, rfl, u'.length, (by show [V.int ((y2.length : Int) - 1)] = [V.int ((u'.length : Nat) : Int)]; congr 2; omega), by omega, by omega, fun x9 H6 ys s7 nx hx mx => ?_⟩
        refine ⟨(by show 2 ≤ sizeLine; decide), fun t nt => ?_⟩
        have s8 := new_same nt (HO.tup [V.ref b, V.ref x9])
        have ht : upd H6 t (HO.tup [V.ref b, V.ref x9]) t = some (.tup [V.ref b, V.ref x9]) := upd_same
        generalize upd H6 t (HO.tup [V.ref b, V.ref x9]) = H7 at s8 ht
        have sA := s6.trans (s7.trans s8)
        have t5 := s5.same sA
        have bB := s5.b.at nb
        have be : b ≠ e := fun z => by rw [z, s5.he] at nb; cases nb
        have bH := s5.u.free s5.b nb
        have t6 := t5.put (k := 1) be bB.1 bB.2 bH (lb.same (s7.trans s8)) (by rw [cmpL_len]; omega)
        have b6 := s5.b.same s6
        have xB := b6.at nx
        have xe : x9 ≠ e := fun z => by rw [z, s6 _ _ s5.he] at nx; cases nx
        have xH : H x9 = none := (s5.u.trans (But.same s6)).free b6 nx
        have lx : Ls K H7 (.ref x9) (0 :: stL u'.length) := Ls.same ⟨x9, ys, rfl, hx, mx⟩ s8
        have t7 := t6.put (k := 2) (r' := stL u'.length) xe xB.1 xB.2 xH (lx.butL t5.he (fun z => xe (V.ref.inj z)) fun b o n h => by rw [upd_ne n]; exact h) (by rw [stL_len (by omega)]; omega)
        have zx : SzR 0 1 (stL u'.length) := szR_x (by omega)
        have lc : (cmpL ss u').length = ff.length := by rw [cmpL_len]; exact ls
        have lst : (stL u'.length).length = ff.length := by rw [stL_len (by omega)]; exact lu'
        have zp := qs.z.r.cmp zu' (by omega) (by omega)
        have z1 := zp.cmp zx (by omega) (by omega)
        have z2 := zx.cmp zp (by omega) (by omega)
        refine ⟨t, [_, _], rfl, SqT.of ht, rfl, _, [_], rfl, ⟨_, rfl, e, _, _, 1, rfl, rfl, t5.he, rfl, _, [], rfl, ⟨_, rfl, e, _, _, 2, rfl, rfl, upd_same, rfl, rfl, _, cmpL ss u', stL u'.length, rfl, t7, lc, lst, hc1, ?_, ?_, ?_⟩⟩⟩
        · exact zx.up (Nat.zero_le _) (by rcases (show j = 0 ∨ j = 1 by omega) with rfl | rfl <;> decide)
        · rcases (show j = 0 ∨ j = 1 by omega) with rfl | rfl
          · exact z1.up (by decide) (by decide)
          · exact z1.up (by decide) (by decide)
        · rcases (show j = 0 ∨ j = 1 by omega) with rfl | rfl
          · exact z2.up (by decide) (by decide)
          · exact z2.up (by decide) (by decide)
      · have := zu'.cmp qs.z.r (by omega) (by omega)
        rcases (show j = 0 ∨ j = 1 by omega) with rfl | rfl
        · exact this.up (by decide) (by decide)
        · exact this.up (by decide) (by decide)
    clear s5
    rintro σ G5 ⟨xs', p', u2, rfl, s5, lp, lu2, zp, zu2, zc, zd⟩
    obtain ⟨a1, y1, r1, e1, f1, m1, _, _, _, _, h1, n1⟩ := s5.at (k := 1) (by decide)
    obtain ⟨a2, y2, r2, e2, f2, m2, _, _, _, _, h2, n2⟩ := s5.at (k := 2) (by decide)
    obtain rfl : p' = r1 := Option.some.inj f1
    obtain rfl : u2 = r2 := Option.some.inj f2
    have qh1 := qup qh
    have nz : ∀ {b : Addr} {H5 : Hp} {g : List Rat}, Same G5 H5 → G5 b = none → Ls K H5 (.ref b) (0 :: g) → g.length = ff.length → Sz (j + 1) g → ∃ (xs2 : List V) (f' : List Rat), S4 K (n + 3) B p e H (upd H5 e (.lst (xs'.set 0 (.ref b)))) xs2 [f', p', u2, hh] ∧ QOk (j + 1) f' := fun {b H5 g} s6 nb lb lg zg => by
      have bB := s5.b.at nb
      have be : b ≠ e := fun z => by rw [z, s5.he] at nb; cases nb
      exact ⟨_, g, (s5.same s6).put (k := 0) be bB.1 bB.2 (s5.u.free s5.b nb) lb (by omega), zg, by omega, by omega⟩
    have lxs : xs'.length = 4 := s5.l4
    refine ⟨fun σ G => ∃ (xs2 : List V) (f' : List Rat), σ = [some (.ref B), some (.ref a), some (.ref e), none, some (.int (way : Nat)), some (.int (k : Nat)), v, none] ∧ S4 K (n + 3) B p e H G xs2 [f', p', u2, hh] ∧ QOk (j + 1) f', ?_, ?_⟩
    · refine ⟨_, rfl, (way : Int), 9, rfl, rfl, _, rfl, ite2 (fun _ => ?_) (fun _ => ?_)⟩
      · refine ⟨_, rfl, e, _, 1, _, rfl, rfl, SqL.of s5.he, at_of (j := 1) rfl e1, _, rfl, e, _, 2, _, rfl, rfl, SqL.of s5.he, at_of (j := 2) rfl e2, put_ofL (E := E) ⟨a1, y1, rfl, h1, n1⟩ ⟨a2, y2, rfl, h2, n2⟩ (by omega) (by omega) zp zu2 fun b H5 s6 nb hb lb => ?_⟩
        obtain ⟨xs2, f', t6, qf'⟩ := nz s6 nb lb (by rw [cmpL_len]; exact lp) zc
        exact ⟨_, rfl, e, xs', _, 0, rfl, rfl, s6 _ _ s5.he, (show ixN xs'.length ((0 : Nat) : Int) = some 0 from ixN_of (by omega)), xs2, f', rfl, t6, qf'⟩
      · refine ⟨_, rfl, e, _, 2, _, rfl, rfl, SqL.of s5.he, at_of (j := 2) rfl e2, _, rfl, e, _, 1, _, rfl, rfl, SqL.of s5.he, at_of (j := 1) rfl e1, put_ofL (E := E) ⟨a2, y2, rfl, h2, n2⟩ ⟨a1, y1, rfl, h1, n1⟩ (by omega) (by omega) zu2 zp fun b H5 s6 nb hb lb => ?_⟩
        obtain ⟨xs2, f', t6, qf'⟩ := nz s6 nb lb (by rw [cmpL_len]; exact lu2) zd
        exact ⟨_, rfl, e, xs', _, 0, rfl, rfl, s6 _ _ s5.he, (show ixN xs'.length ((0 : Nat) : Int) = some 0 from ixN_of (by omega)), xs2, f', rfl, t6, qf'⟩
    rintro σ G6 ⟨xs2, f', rfl, t6, qf'⟩
    obtain ⟨f1', s1', u1', h1', f4⟩ := t6.f4 (j := j + 1) fun r hr => by
      simp only [List.mem_cons, List.not_mem_nil, or_false] at hr
      rcases hr with rfl | rfl | rfl | rfl
      · exact qf'
      · exact ⟨zp, by omega, by omega⟩
      · exact ⟨zu2, by omega, by omega⟩
      · exact qh1
    exact ⟨_, rfl, q G6 e _ _ _ _ (t6.b.less (by omega)) t6.u t6.eB f4⟩
  clear s4
  rintro σ G2 ⟨rfl, s4⟩
  refine ⟨fun σ G => G = G2 ∧ σ = [some (.ref B), some (.ref a), some (.ref e), none, some (.int (way : Nat)), some (.int (k : Nat)), none, none], ?_, ?_⟩
  · refine ⟨_, rfl, rfl, _, rfl, ite2 (fun _ => ?_) (fun _ => ⟨rfl, rfl⟩)⟩
    obtain ⟨x0, x1, x2, x3, rfl⟩ : ∃ x0 x1 x2 x3, xs = [x0, x1, x2, x3] := by
      match xs, s4.l4 with
      | [x0, x1, x2, x3], _ => exact ⟨_, _, _, _, rfl⟩
    have he := SqL.of (K := K) s4.he
    refine ⟨_, rfl, e, _, 0, _, rfl, rfl, he, rfl, _, rfl, e, _, 2, _, rfl, rfl, he, rfl, _, rfl, e, _, 1, _, rfl, rfl, he, rfl, _, rfl, e, _, 3, _, rfl, rfl, he, rfl, (by show 4 ≤ sizeLine; decide), fun t nt => ?_⟩
    have s1 := new_same nt (HO.lst [x0, x2, x1, x3])
    have s5 := s4.same s1
    have w : ∀ (k : Nat) x r, [x0, x1, x2, x3][k]? = some x → [ff, ss, uu, hh][k]? = some r → Ls K (upd G2 t (HO.lst [x0, x2, x1, x3])) x (0 :: r) := fun k x r h1 h2 => by
      obtain ⟨a, ea, _, _, _, _, l⟩ := s5.l k x r h1 h2
      rw [ea]
      exact l
    exact q _ t ff uu ss hh (s5.b.less (by omega)) s5.u (s4.b.at nt).1 ⟨⟨_, _, _, _, upd_same, w 0 _ _ rfl rfl, w 2 _ _ rfl rfl, w 1 _ _ rfl rfl, w 3 _ _ rfl rfl⟩, qup qf, qup qu, qup qs, qup qh⟩
  rintro σ G1 ⟨rfl, rfl⟩
  refine ⟨fun σ G => ∃ (xs : List V) (rows : List (List Rat)) (v7 : Option V), σ = [some (.ref B), some (.ref a), some (.ref e), none, some (.int (way : Nat)), some (.int (k : Nat)), none, v7] ∧ S4 K n B p e H G xs rows ∧ ∀ r ∈ rows, QOk (j + 1) r, ?_, ?_⟩
  · have he := SqL.of (K := K) s4.he
    obtain ⟨ak, yk, rk, ek, fk, mk, ae, akB, akp, akn, hk, nk⟩ := s4.at k4
    have lk : yk.length = rk.length + 1 := nk.1
    have qk := qall rk mk
    have up5 : ∀ {r' : List Rat}, QOk (j + 1) r' → ∀ r ∈ [ff, ss, uu, hh].set k r', QOk (j + 1) r := fun {r'} q' r hr => by
      rcases List.mem_or_eq_of_mem_set hr with hr | rfl
      · exact qup (qall r hr)
      · exact q'
    have klo := qk.lo
    have khi := qk.hi
    refine ⟨_, rfl, rfl, _, rfl, ite2 (fun _ => ?_) (fun _ => ?_)⟩
    · refine ⟨_, rfl, _, rfl, e, xs, (k : Int), _, rfl, rfl, he, at_of (j := k) rfl ek, ?_⟩
      refine ⟨_, rfl, n + 5, B, p, rfl, s4.b, fun H4 y r b4 u4 ny nr => ⟨(by show 1 ≤ sizeLine; decide), fun l nl => ?_⟩⟩
      have s5 := s4.go b4 u4
      have s6 := new_same nl (HO.lst [y])
      have t5 := s5.same s6
      refine ⟨ak, l, _, _, rfl, rfl, s6 _ _ (u4 _ _ akB hk), upd_same, Nat.le_of_lt (small1000 (by show yk.length + 1 ≤ 1000; omega)), fun d nd' => ?_⟩
      have s7 := new_same nd' (HO.lst (yk ++ [y]))
      have t6 := t5.same s7
      have n6 : Nl K _ (yk ++ [y]) ((0 :: rk) ++ [r]) := ((nk.go s4.b (Go.of u4)).snoc ny).same (s6.trans s7)
      have dB := t5.b.at nd'
      have de : d ≠ e := fun z => by rw [z, t5.he] at nd'; cases nd'
      have t7 := t6.put (k := k) (r' := rk ++ [r]) de dB.1 dB.2 (t5.u.free t5.b nd') ⟨d, _, rfl, upd_same, n6⟩ (by rw [List.length_append]; omega)
      refine ⟨_, rfl, _, rfl, e, xs, _, k, rfl, rfl, t6.he, (show ixN xs.length ((k : Nat) : Int) = some k from ixN_of (by rw [s4.l4]; exact k4)), _, _, none, rfl, t7.less (by omega), up5 ⟨?_, by rw [List.length_append]; omega, by rw [List.length_append]; show rk.length + 1 ≤ _; omega⟩⟩
      have z := qk.z.r.app nr.dq
      rcases (show j = 0 ∨ j = 1 by omega) with rfl | rfl
      · exact z.up (by decide) (by decide)
      · exact z.up (by decide) (by decide)
    · refine ⟨_, rfl, rfl, _, rfl, ?_⟩
      refine (fun EL => ite2 (fun _ => ⟨_, rfl, _, rfl, e, xs, (k : Int), _, rfl, rfl, he, at_of (j := k) rfl ek, ak, yk, rfl, .inl (SqL.of hk), (yk.length : Int), 3, rfl, rfl, _, rfl, ite2 (fun c3 => ?pop) (fun _ => EL)⟩) (fun _ => EL)) ?els
      case pop =>
        have c3 : 3 < yk.length := by have := of_decide_eq_true c3; omega
        have rne : rk ≠ [] := fun z => by rw [z] at klo; exact absurd klo (by decide)
        obtain ⟨y, ey⟩ : ∃ y, yk[yk.length - 1]? = some y := ⟨_, List.getElem?_eq_getElem (by omega)⟩
        have nd2 := nk.dropD hk
        rw [List.dropLast_cons_of_ne_nil rne] at nd2
        have t5 := s4.mut (k := k) nd ek hk ae akB akp akn nd2 (by rw [List.length_dropLast]; omega)
        refine ⟨_, rfl, _, rfl, e, xs, (k : Int), _, rfl, rfl, he, at_of (j := k) rfl ek, .inl ⟨rfl, _, SqL.of hk⟩, ak, yk, y, rfl, rfl, hk, ey, _, _, none, rfl, t5.less (by omega), up5 ⟨?_, by rw [List.length_dropLast]; omega, by rw [List.length_dropLast]; omega⟩⟩
        rcases (show j = 0 ∨ j = 1 by omega) with rfl | rfl
        · exact qk.z.r.pop.up (by decide) (by decide)
        · exact qk.z.r.pop.up (by decide) (by decide)
      refine ⟨_, rfl, rfl, _, rfl, ite2 (fun _ => ?_) (fun _ => ?_)⟩
      · have up : ∀ {r r' : List Rat}, QOk j r → r'.length = r.length → SzR (szA j + 6) (szB j + szA j + 17) r' → QOk (j + 1) r' := fun {r r'} q0 l z => by
          have := q0.lo
          have := q0.hi
          refine ⟨?_, by omega, by omega⟩
          rcases (show j = 0 ∨ j = 1 by omega) with rfl | rfl
          · exact z.up (by decide) (by decide)
          · exact z.up (by decide) (by decide)
        refine ⟨fun σ G => ∃ h' : List Rat, σ = [some (.ref B), some (.ref a), some (.ref e), none, some (.int (way : Nat)), some (.int (k : Nat)), none, none] ∧ S4 K (n + 8) B p e H G xs [ff, ss, uu, h'] ∧ QOk (j + 1) h', ?_, ?_⟩
        · obtain ⟨a3, y3, r3, e3, f3, m3, c1, c2, c3, c4, h3, n3⟩ := s4.at (k := 3) (by decide)
          obtain rfl : hh = r3 := Option.some.inj f3
          have l3 : y3.length = hh.length + 1 := n3.1
          have hlo := qh.lo
          refine ⟨(by show 2 ≤ sizeLine; decide), fun t nt => ?_⟩
          have s5 := new_same nt (HO.tup [.int 0, .int 1])
          have z5 : Nq K (upd G1 t (HO.tup [.int 0, .int 1])) (.ref t) 0 := .at (K := K) upd_same
          generalize upd G1 t (HO.tup [.int 0, .int 1]) = G5 at s5 z5
          have t5 := s4.same s5
          have h3' := s5 _ _ h3
          have t6 := t5.mut (k := 3) (r' := hh.set 0 0) nd e3 h3' c1 c2 c3 c4 ((n3.same s5).setD (i := 1) h3' z5) (by rw [List.length_set]; omega)
          exact ⟨_, rfl, e, xs, 3, _, rfl, rfl, SqL.of t5.he, at_of (j := 3) rfl e3, a3, y3, _, 1, rfl, rfl, h3', (show ixN y3.length ((1 : Nat) : Int) = some 1 from ixN_of (by omega)), hh.set 0 0, rfl, t6, up qh (List.length_set ..) ((qh.z.r.set (i := 0) (by omega) Dq.zero).up (Nat.le_refl _) (by omega))⟩
        rintro σ G5 ⟨h', rfl, t5, qh'⟩
        have fin : ∀ {u' : List Rat}, QOk (j + 1) u' → ∀ r ∈ [ff, ss, u', h'], QOk (j + 1) r := fun {u'} q' r hr => by
          simp only [List.mem_cons, List.not_mem_nil, or_false] at hr
          rcases hr with rfl | rfl | rfl | rfl
          · exact qup qf
          · exact qup qs
          · exact q'
          · exact qh'
        refine ⟨_, rfl, n + 7, B, p, 2, rfl, by decide, by decide, t5.b, fun H6 z b6 u6 z0 z1 => ⟨rfl, _, rfl, ite2 (fun _ => ?_) (fun _ => ⟨_, _, none, rfl, (t5.go b6 u6).less (by omega), fin (qup qu)⟩)⟩⟩
        have t6 := t5.go b6 u6
        refine ⟨_, rfl, n + 3, B, p, rfl, t6.b, fun H7 y r b7 u7 ny nr => ?_⟩
        have t7 := t6.go b7 u7
        obtain ⟨a2, y2, r2, e2, f2, m2, c1, c2, c3, c4, h2, n2⟩ := t7.at (k := 2) (by decide)
        obtain rfl : uu = r2 := Option.some.inj f2
        have l2 : y2.length = uu.length + 1 := n2.1
        have ulo := qu.lo
        have t8 := t7.mut (k := 2) (r' := uu.set 0 r) nd e2 h2 c1 c2 c3 c4 (n2.setD (i := 1) h2 ny) (by rw [List.length_set]; omega)
        exact ⟨_, rfl, e, xs, 2, _, rfl, rfl, SqL.of t7.he, at_of (j := 2) rfl e2, a2, y2, _, 1, rfl, rfl, h2, (show ixN y2.length ((1 : Nat) : Int) = some 1 from ixN_of (by omega)), _, _, none, rfl, t8.less (by omega), fin (up qu (List.length_set ..) ((qu.z.r.set (i := 0) (by omega) nr.1.dq).up (Nat.le_refl _) (by omega)))⟩
      · refine ⟨fun σ G => ∃ jj : Nat, σ = [some (.ref B), some (.ref a), some (.ref e), none, some (.int (way : Nat)), some (.int (k : Nat)), none, some (.int (jj : Nat))] ∧ S4 K (n + 7) B p e H G xs [ff, ss, uu, hh] ∧ 1 ≤ jj ∧ jj ≤ rk.length, ?_, ?_⟩
        · refine ⟨_, rfl, _, rfl, _, rfl, e, xs, (k : Int), _, rfl, rfl, he, at_of (j := k) rfl ek, ak, yk, rfl, .inl (SqL.of hk), (yk.length : Int), 1, rfl, rfl, n + 7, B, p, (yk.length : Int) - 1, rfl, by omega, by omega, s4.b, fun H4 z b4 u4 z0 z1 => ?_⟩
          obtain ⟨zn, rfl⟩ : ∃ zn : Nat, z = (zn : Int) := ⟨z.toNat, by omega⟩
          exact ⟨1, zn, rfl, rfl, 1 + zn, rfl, s4.go b4 u4, by omega, by omega⟩
        rintro σ G3 ⟨jj, rfl, s5, j2, jl⟩
        obtain ⟨ak, yk, rk', ek, fk', mk, ae, akB, akp, akn, hk, nk⟩ := s5.at k4
        rw [fk] at fk'
        obtain rfl := Option.some.inj fk'
        have lk : yk.length = rk.length + 1 := nk.1
        obtain ⟨y, ey, ny⟩ := nk.get' (i := jj) (by rw [List.length_cons]; omega)
        obtain ⟨i, rfl⟩ : ∃ i, jj = i + 1 := ⟨jj - 1, by omega⟩
        have ev : (0 :: rk)[i + 1]'(by rw [List.length_cons]; omega) = serS rk (i + 1) := by
          show rk[i]'(by omega) = rk.getD i 0
          rw [List.getD_eq_getElem?_getD, List.getElem?_eq_getElem (by omega)]
          rfl
        rw [ev] at ny
        refine ⟨_, rfl, _, rfl, e, xs, (k : Int), _, rfl, rfl, SqL.of s5.he, at_of (j := k) rfl ek, _, rfl, ak, yk, ((i + 1 : Nat) : Int), y, rfl, rfl, SqL.of hk, at_of (j := i + 1) rfl ey, _, rfl, n + 3, B, p, rfl, s5.b, fun H4 z r b4 u4 nz nr => ?_⟩
        have s6 := s5.go b4 u4
        have oka : Ok (serS rk (i + 1)) := by
          rw [← ev]
          exact ao0 (qk.z.all (by omega)) _ (List.getElem_mem _)
        refine ⟨y, z, _, r, rfl, ny.go s5.b (Go.of u4), nz, oka, nr.1.dq.ok ⟨by decide, Nat.lt_of_lt_of_le (show 60 < 2 ^ 6 by decide) (Nat.pow_le_pow_right (by decide) (by decide))⟩ (by decide), fun t H5 s7 nt et => ?_⟩
        have s8 := s6.same s7
        have h2' := s7 _ _ (u4 _ _ akB hk)
        have n2' := (nk.go s5.b (Go.of u4)).same s7
        have t9 := s8.mut (k := k) (r' := rk.set i (serS rk (i + 1) + r)) nd ek h2' ae akB akp akn (n2'.setD (i := i + 1) h2' (.at et)) (by rw [List.length_set]; omega)
        refine ⟨_, rfl, _, rfl, e, xs, (k : Int), _, rfl, rfl, SqL.of s8.he, at_of (j := k) rfl ek, _, rfl, ak, yk, _, i + 1, rfl, rfl, h2', (show ixN yk.length ((i + 1 : Nat) : Int) = some (i + 1) from ixN_of (by omega)), _, _, _, rfl, t9.less (by omega), up5 ⟨?_, by rw [List.length_set]; omega, by rw [List.length_set]; omega⟩⟩
        have zz := qk.z.r.add (i := i) (by omega) nr.1.dq
        rcases (show j = 0 ∨ j = 1 by omega) with rfl | rfl
        · exact zz.up (by decide) (by decide)
        · exact zz.up (by decide) (by decide)
  rintro σ G3 ⟨xs', rows', v7, rfl, s5, q5⟩
  obtain ⟨f', s', u', h', f4⟩ := s5.f4 q5
  exact ⟨_, rfl, q G3 e f' s' u' h' s5.b s5.u s5.eB f4⟩
end
end Kx
end
section
set_option maxHeartbeats 4000000
namespace Kx
open PySem PySem.Spec PyProof.Rows L2 RZ
/-! ### a paper judged -/
structure PtI (K : PySem.W.Frag) (PT PA : Addr) : Prop where
  ty : ∀ H a dx fs, H a = some (.ins PT dx fs) → TyX K H (.ref a) (.ref PT)
  kit : PySem.W.kitOne K (.ref PT) (.ref PT) = some true
  kia : PySem.W.kitOne K (.ref PT) (.ref PA) = some true
def apRB : List Value → List Value → List Value := fun us ws => us ++ ws.reverse
def apRA : List V → List V → List V := fun vs zs => vs ++ zs.reverse
theorem kb_rev4 {K : PySem.W.Frag} {x q : Str} {f : Addr} {fd : FuncData} {a b c d e : Str} {st : Stmt} (F : Fun K x q st f fd) (h : ∀ (kV doc pm : Value) (an : Option Addr) (cdv ct u1 u2 u3 u4 u5 : Value), bindArgs (PySem.W.fnOf x q (defArgs st) (defBody st) (defScope st) .none kV doc pm an cdv ct) ⟨[u1], [(e, u5), (d, u4), (c, u3), (b, u2)]⟩ = pure [(a, u1), (b, u2), (c, u3), (d, u4), (e, u5)]) : KBn K fd [a, b, c, d, e] 1 [e, d, c, b] apRB apRA := by
  obtain ⟨oc, od, kV, doc, pm, an, cdv, ct, osl, rfl, lk, hcd⟩ := F.ex
  refine ⟨fun s us ws _ l1 l2 => ?_, fun r1 r2 => vals_app r1 (vals_rev r2)⟩
  match us, ws, l1, l2 with
  | [u1], [u5, u4, u3, u2], _, _ => exact .of_eq (h _ _ _ _ _ _ u1 u2 u3 u4 u5)
section
variable {K : PySem.W.Frag} {S CF CO a x dx B p : Addr} {H H' : Hp} {v : V} {qs : List Rat} {xs l : List V} {n : Nat} {R : VK} {E : XK}
theorem Nl.butL {rs : List Rat} {ys : List V} (h : Nl K H ys rs) (hD : H a = some (.lst l)) (s : But a H H') : Nl K H' ys rs := ⟨h.1, fun i x q h1 h2 => (h.2 i x q h1 h2).butL hD s⟩
def StFr (K : PySem.W.Frag) (S a : Addr) (H : Hp) (v : V) (qs : List Rat) : Prop := ∃ (x dx b : Addr) (xs : List V) (x0 fv sv : V), v = .ref x ∧ H x = some (.ins S dx (stF b (qs.length : Int) x0 (kindS qs) (hgtV qs 1) fv sv)) ∧ H b = some (.lst xs) ∧ Nl K H xs qs ∧ xs[0]? = some x0 ∧ 2 ≤ qs.length ∧ qs.length ≤ 24 ∧ b ≠ a
theorem StFr.at (h : StFr K S a H v qs) : StAt K S H v qs := by
  obtain ⟨x, dx, b, xs, x0, fv, sv, e, h1, h2, h3, h4, h5, h6, _⟩ := h
  exact ⟨x, dx, b, xs, x0, fv, sv, e, h1, h2, h3, h4, h5, h6⟩
theorem StFr.same (h : StFr K S a H v qs) (s : Same H H') : StFr K S a H' v qs := by
  obtain ⟨x, dx, b, xs, x0, fv, sv, e, h1, h2, h3, h4⟩ := h
  exact ⟨x, dx, b, xs, x0, fv, sv, e, s _ _ h1, s _ _ h2, h3.same s, h4⟩
theorem StFr.butL (h : StFr K S a H v qs) (ha : H a = some (.lst l)) (s : But a H H') : StFr K S a H' v qs := by
  obtain ⟨x, dx, b, xs, x0, fv, sv, e, h1, h2, h3, h4, h5, h6, h7⟩ := h
  exact ⟨x, dx, b, xs, x0, fv, sv, e, s _ _ (fun z => by rw [z, ha] at h1; cases h1) h1, s _ _ h7 h2, h3.butL ha s, h4, h5, h6, h7⟩
theorem step_newR (ha : SqH H a xs) (hn : Nl K H xs qs) (l1 : 2 ≤ qs.length) (l2 : qs.length ≤ 24) (nx : H x = none) (ndx : H dx = none) (ne : dx ≠ x)
    (q : ∀ H', Same H H' → (∀ c, H c ≠ none → StFr K S c H' (.ref x) qs) → R .non H') :
    spSIF K S CF CO [.ref x, .ref a] (upd (upd H dx (.own x)) x (.ins S dx [])) R E := by
  have hx2 : upd (upd H dx (.own x)) x (.ins S dx []) x = some (.ins S dx []) := upd_same
  have sm : Same H (upd (upd H dx (.own x)) x (.ins S dx [])) := (new_same ndx _).trans (new_same (by rw [upd_ne (Ne.symm ne)]; exact nx) _)
  refine ⟨x, dx, .ref a, rfl, fun e => ?_, hx2, .inr ⟨a, xs, rfl, ha.same sm, .inr ⟨by rw [hn.1]; omega, by rw [hn.1]; omega, .inr ⟨qs, hn.same sm, fun H' b x0 fv sv h0 u nb hx hb e1 e2 => ?_⟩⟩⟩⟩
  · rw [V.ref.inj e] at ha
    rcases ha with h | h <;> rw [nx] at h <;> cases h
  · have s' : Same H H' := fun e o he => u e o (fun z => by rw [z, nx] at he; cases he) (sm e o he)
    subst e1
    exact q H' s' fun c hc => ⟨x, dx, b, xs, x0, _, sv, rfl, hx, hb, hn.same s', h0, l1, l2, fun z => hc (by rw [← z]; exact sm.free nb)⟩
end
theorem pt_new {PT x dx : Addr} {H : Hp} {a b c d : V} {R : VK} {E : XK} (nx : H x = none) (ndx : H dx = none) (ne : dx ≠ x) (q : ∀ H', Same H H' → PtAt PT H' (.ref x) a b c d → R .non H') : spPtI PT [.ref x, a, b, c, d] (upd (upd H dx (.own x)) x (.ins PT dx [])) R E := by
  have sm : Same H (upd (upd H dx (.own x)) x (.ins PT dx [])) := (new_same ndx _).trans (new_same (by rw [upd_ne (Ne.symm ne)]; exact nx) _)
  exact ⟨x, dx, a, b, c, d, rfl, upd_same, fun H' u hx => q H' (fun e o he => u e o (fun z => by rw [z, nx] at he; cases he) (sm e o he)) ⟨x, dx, rfl, hx⟩⟩
theorem PtAt.go {PT B p : Addr} {H H' : Hp} {v a b c d : V} {n : Nat} (h : PtAt PT H v a b c d) (bb : Bag n H B p) (s : Go B H H') : PtAt PT H' v a b c d := by
  obtain ⟨x, dx, e, hx⟩ := h
  exact ⟨x, dx, e, ins_go hx bb s⟩
theorem sz_scL {j n : Nat} {p : List Rat} (h : Sz j p) (n1 : 1 ≤ n) (l1 : 1 ≤ p.length) : Sz j (scL n (serS p 1)) := by
  obtain ⟨E, m, e0, ea, mb, g⟩ := h
  refine ⟨E, m, e0, ea, mb, rfl, fun k k1 _ => ?_⟩
  match k, k1 with
  | 1, _ => exact g.g 1 (by decide) l1
  | k + 2, _ =>
    show Dq _ _ ((List.replicate (n - 1) (0 : Rat)).getD k 0)
    rw [List.getD_eq_getElem?_getD, List.getElem?_replicate]
    split <;> exact Dq.zero
theorem wr_ok22 {j : Nat} {f p s h : List Rat} (qf : QOk j f) (qp : QOk j p) (qs : QOk j s) (qh : QOk j h) (j2 : j ≤ 2) : WrOk f p s h := by
  have := qf.hi; have := qp.hi; have := qs.hi; have := qh.hi; have := qp.lo; have := qf.lo
  exact ⟨qp.z.mu qs.z (by omega) (by omega), qs.z.mu qp.z (by omega) (by omega), qh.z.mu qp.z (by omega) (by omega), (sz_scL qp.z (by omega) (by omega)).mu qh.z (by unfold scL; rw [List.length_cons, List.length_replicate]; omega) (by omega)⟩
theorem du_ok22 {j : Nat} {f p s h : List Rat} (qp : QOk j p) (qs : QOk j s) (qh : QOk j h) (j2 : j ≤ 2) : DuOk f p s h := by
  have := qp.hi; have := qs.hi; have := qh.hi; have := qp.lo
  refine ⟨qp.z.pu qs.z (by omega) (by omega), qs.z.pu qp.z (by omega) (by omega), qh.z.pu qp.z (by omega) (by omega), qh.z.all (by omega), ?_⟩
  have e : serS p 1 = p[0]'(by omega) := by
    show p.getD 0 0 = _
    rw [List.getD_eq_getElem?_getD, List.getElem?_eq_getElem (by omega)]
    rfl
  rw [e]
  exact qp.z.all (by omega) _ (List.getElem_mem _)
theorem F4.go {K : PySem.W.Frag} {H H' : Hp} {j n : Nat} {a B p : Addr} {f s u h : List Rat} (x : F4 K H j a f s u h) (aB : a ≠ B) (b : Bag n H B p) (t : But B H H') : F4 K H' j a f s u h := by
  obtain ⟨⟨v1, v2, v3, v4, ha, l1, l2, l3, l4⟩, qf, qs, qu, qh⟩ := x
  have l : ∀ {q : List Rat}, QOk j q → 2 ≤ (0 :: q).length := fun {q} k => by
    have := k.lo
    rw [List.length_cons]
    omega
  exact ⟨⟨v1, v2, v3, v4, t _ _ aB ha, l1.go (l qf) b (Go.of t), l2.go (l qs) b (Go.of t), l3.go (l qu) b (Go.of t), l4.go (l qh) b (Go.of t)⟩, qf, qs, qu, qh⟩
/-- what a check answers, as a value at a heap -/
def PvAt (H : Hp) (v : V) (d : Option (Int × Int)) : Prop := match d with
  | none => v = .non
  | some (a, b) => ∃ t, v = .ref t ∧ H t = some (.tup [.int a, .int b])
theorem PvAt.same {H H' : Hp} {v : V} {d : Option (Int × Int)} (h : PvAt H v d) (s : Same H H') : PvAt H' v d := by
  match d, h with
  | none, h => exact h
  | some (a, b), ⟨t, e, h⟩ => exact ⟨t, e, s _ _ h⟩
theorem gives_of {H : Hp} {Q : VK} {d : Option (Int × Int)} (q : ∀ v H', Same H H' → PvAt H' v d → Q v H') : GivesP H Q d := by
  match d with
  | none => exact fun H' s => q _ H' s rfl
  | some (a, b) => exact fun t H' s h => q _ H' s ⟨t, rfl, h⟩
theorem PvAt.lk {K : PySem.W.Frag} {H : Hp} {v u : V} {d : Option (Int × Int)} {n : Nat} (h : PvAt H v d) (h' : PvAt H u d) : Lk K (n + 1) H v u := by
  match d, h, h' with
  | none, h, h' =>
    rw [show v = .non from h, show u = .non from h']
    exact Lk.flat rfl
  | some (a, b), ⟨t, e, h⟩, ⟨t', e', h'⟩ =>
    rw [e, e']
    exact .inr ⟨t, t', _, _, rfl, rfl, (by show 2 ≤ 60; decide), paired_flat fun x hx => by
      simp only [List.mem_cons, List.not_mem_nil, or_false] at hx
      rcases hx with rfl | rfl <;> rfl, .inr ⟨.inl h, .inl h'⟩⟩
structure Kit22 (P : Program) (w : World) (K : PySem.W.Frag) (mg : Str → Option Value) (base : Heap) (C S PT PA CF CO : Addr) : Prop where
  sk : StepK P w K mg base C S CF CO
  pk : PtK P w K mg base PT
  pI : PtI K PT PA
  mPA : mg "Paper" = some (.ref PA)
  ini : ∃ (g : Addr) (fd : FuncData), Mk K PT g ∧ FnOk P w K mg base CX0 2 g fd ["self", "step", "pure", "slow", "straightener"] (spPtI PT) ∧ Binds K fd ["self", "step", "pure", "slow", "straightener"] [] ∧ KBn K fd ["self", "step", "pure", "slow", "straightener"] 1 ["straightener", "slow", "pure", "step"] apRB apRA
  wrg : MUse P w K mg base (L2.CX P w) 9 PT "wrong" ["self"] (spWrg K S PT) []
  draw : Use P w K mg base CX0 1 "_law_draw" ["_law_bag_here", "_law_many_y"] spDraw []
  fts : Use P w K mg base CX0 1 "_law_fits" ["_law_u"] (spFts K) []
  due : Use P w K mg base CX0 4 "_law_due" ["_law_four"] (spDue K) []
  lik : Use P w K mg base CX0 5 "_law_same" ["_law_found", "_law_due_here"] (spLike K 3) []
  ist : Use P w K mg base CX0 6 "_law_is_step" ["_law_told", "_law_f"] (spIst K S) []
  ord : Use P w K mg base CX0 3 "_law_order" ["_law_bag_here"] spOrd []
  ppr : Use P w K mg base CX0 7 "_law_paper" ["_law_bag_here", "_law_deg"] (spPpr K) []
  spt : Use P w K mg base CX0 4 "_law_spoilt" ["_law_bag_here", "_law_four"] (spSpt K) []
  mm : mg "min" = none
  ma : mg "all" = none
  mz : mg "zip" = none
  mI : mg "isinstance" = none
def spJud (K : PySem.W.Frag) : Sp := fun vs H Q _ => ∃ (n : Nat) (B p a : Addr) (j : Nat) (f s u h : List Rat), vs = [.ref B, .ref a] ∧ Bag (n + 1) H B p ∧ F4 K H j a f s u h ∧ j ≤ 2 ∧ a ≠ B ∧ ∀ H', Bag n H' B p → But B H H' → Q (.bl true) H'
abbrev nJud : List Str := ["_law_bag_here", "_law_four", "_law_g", "_law_things", "_law_paper_y", "_law_due_here", "_law_found", "_law_thing"]
section
variable {P : Program} {w : World} {K : PySem.W.Frag} {mg : Str → Option Value} {base : Heap} {f C S PT PA CF CO : Addr} {fd : FuncData}
theorem scJud : FnScope nJud ["_law_bag_here", "_law_four"] (defScope L_judged) := ⟨rfl, rfl, rfl, by decide +kernel, rfl, by decide +kernel, by decide +kernel⟩
theorem ok_judged (F : Fun K "_law_judged" "_law_judged" L_judged f fd) (U : Kit22 P w K mg base C S PT PA CF CO) : FnOk P w K mg base CX0 10 f fd ["_law_bag_here", "_law_four"] (spJud K) := by
  refine F.ok scJud (fun vs H Q E h => ?_) (fun cdv A outer s H vs Q E hr h => ?_)
  · obtain ⟨n, B, p, a, j, f, s, u, h, rfl, _⟩ := h
    rfl
  obtain ⟨n, B, p, a, j, ff, ss, uu, hh, rfl, hb, h4, j2, aB, q⟩ := h
  have hr1 := hr.mono (show 1 ≤ 9 by decide)
  have hr3 := hr.mono (show 3 ≤ 9 by decide)
  have hr4 := hr.mono (show 4 ≤ 9 by decide)
  have hr5 := hr.mono (show 5 ≤ 9 by decide)
  have hr6 := hr.mono (show 6 ≤ 9 by decide)
  have hr7 := hr.mono (show 7 ≤ 9 by decide)
  have hr9 := hr
  obtain ⟨fI, fdI, MI, FI, bI⟩ := U.sk.ini
  obtain ⟨fP, fdP, MP, FP, bP, kP⟩ := U.ini
  refine ⟨_, (C8.pss_cut (ps_if (pt_not (pt_val (pe_callB (cr_all rfl) rfl U.ma (by decide +kernel) (pa_cons (pe_lc (own := [("_law_g", 2)]) (g := gName 2) (tt := tYes) rfl scJud.nd (pi_list (pv 1)) (blkOk_by (N := nJud) (sc := defScope L_judged) (by decide +kernel)) (fun _ _ _ _ _ => pg_name (i := 2) scJud.nd rfl (Or.inl rfl)) (fun _ _ _ _ _ => pts_nil) (fun _ _ _ _ _ => (pe_use U.fts hr1 rfl pass0 (pa_cons (pv 2) pa_nil)))) pa_nil)))) (pss_one (ps_ret pe_bl)) pss_nil)
    (C8.pss_cut (ps_setLc (i := 3) (own := [("_law_g", 2)]) (g := gName 2) (tt := tYes) rfl scJud.nd rfl rfl (sw_true rfl rfl rfl (by decide +kernel)) (pi_list (pv 1)) (blkOk_by (N := nJud) (sc := defScope L_judged) (by decide +kernel)) (fun _ _ _ _ _ => pg_name (i := 2) scJud.nd rfl (Or.inl rfl)) (fun _ _ _ _ _ => pts_nil) (fun _ _ _ _ _ => (pe_make (E := fun _ _ _ => False) MI FI hr7 rfl U.sk.m bI .nil passF (pa_cons (pe_slice (sll_at K rfl) (pv 2) (po_some pe_int) po_none) pa_nil))))
    (C8.pss_cut (ps_set (i := 4) scJud.nd rfl (Or.inl rfl) (pe_make (E := fun _ _ _ => False) MP FP hr3 rfl U.pk.m bP .nil pass0 (pa_cons (pe_ix ix_list (pv 3) pe_int (fun _ _ => rfl)) (pa_cons (pe_ix ix_list (pv 3) pe_int (fun _ _ => rfl)) (pa_cons (pe_ix ix_list (pv 3) pe_int (fun _ _ => rfl)) (pa_cons (pe_ix ix_list (pv 3) pe_int (fun _ _ => rfl)) pa_nil))))))
    (C8.pss_cut (ps_if (pt_cmpR op_eq (pe_use U.draw hr1 rfl pass0 (pa_cons (pv 0) (pa_cons pe_int pa_nil))) pe_int (nomark _)) (pss_one (ps_set (i := 4) scJud.nd rfl (Or.inl rfl) (pe_makeK0 (ks := ["straightener", "slow", "pure", "step"]) (E := fun _ _ _ => False) MP FP hr3 rfl U.pk.m kP pass0 (pk_cons (pe_ix ix_list (pv 3) pe_int (fun _ _ => rfl)) (pk_cons (pe_ix ix_list (pv 3) pe_int (fun _ _ => rfl)) (pk_cons (pe_ix ix_list (pv 3) pe_int (fun _ _ => rfl)) (pk_cons (pe_ix ix_list (pv 3) pe_int (fun _ _ => rfl)) pk_nil))))))) pss_nil)
    (C8.pss_cut (ps_set (i := 5) scJud.nd rfl (Or.inl rfl) (pe_use U.due hr4 rfl pass0 (pa_cons (pv 1) pa_nil)))
    (C8.pss_cut (ps_if (pt_not (pt_val (pe_use U.lik hr5 rfl pass0 (pa_cons (pe_lst (pa_cons (pe_mu0 (E := fun _ _ _ => False) U.wrg (pv 4) hr9 passF) (pa_cons (pe_mu0 (E := fun _ _ _ => False) U.wrg (pv 4) hr9 passF) (pa_cons (pe_fld (pv 4) rfl) pa_nil)))) (pa_cons (pe_lst (pa_cons (pv 5) (pa_cons (pv 5) (pa_cons pe_str pa_nil)))) pa_nil))))) (pss_one (ps_ret pe_bl)) pss_nil)
    (C8.pss_cut (ps_set (i := 6) scJud.nd rfl (Or.inl rfl) (pe_lst (pa_cons (pe_fld (pv 4) rfl) (pa_cons (pe_fld (pv 4) rfl) (pa_cons (pe_fld (pv 4) rfl) (pa_cons (pe_fld (pv 4) rfl) pa_nil))))))
    (pss_one (ps_ret (pe_and (pe_callB call_isi rfl U.mI (by decide +kernel) (pa_cons (pv 4) (pa_cons (C8.pe_gc (v := .ref PA) rfl ⟨_, U.mPA, rfl⟩) pa_nil))) (pe_one (pe_callB (cr_all rfl) rfl U.ma (by decide +kernel) (pa_cons (pe_lc (own := [("_law_thing", 7), ("_law_g", 2)]) (g := gTup K 2 (gCons (gName 7) (gCons (gName 2) gNil))) (tt := tYes) rfl scJud.nd (pi_zip rfl U.mz (pa_cons (pv 6) (pa_cons (pv 1) pa_nil))) (blkOk_by (N := nJud) (sc := defScope L_judged) (by decide +kernel)) (fun _ _ _ _ _ => pg_tup rfl (pgs_cons (pg_name (i := 7) scJud.nd rfl (Or.inl rfl)) (pgs_cons (pg_name (i := 2) scJud.nd rfl (Or.inl rfl)) pgs_nil))) (fun _ _ _ _ _ => pts_nil) (fun _ _ _ _ _ => (pe_use U.ist hr6 rfl pass0 (pa_cons (pv 7) (pa_cons (pv 2) pa_nil))))) pa_nil))))))))))))), ?_⟩
  obtain ⟨⟨v1, v2, v3, v4, ha, l1, l2, l3, l4⟩, qf, qs, qu, qh⟩ := id h4
  have lsz : ∀ {r : List Rat}, QOk j r → 2 ≤ r.length ∧ r.length ≤ 8 := fun {r} k => by
    have := k.lo
    have := k.hi
    omega
  have at4 : ∀ {G : Hp} {i : Nat} {x : V}, Same H G → [v1, v2, v3, v4][i]? = some x → ∃ r, [ff, ss, uu, hh][i]? = some r ∧ QOk j r ∧ Ls K G x (0 :: r) := fun {G i x} s e => by
    match i, e with
    | 0, e => rw [← Option.some.inj e]; exact ⟨_, rfl, qf, l1.same s⟩
    | 1, e => rw [← Option.some.inj e]; exact ⟨_, rfl, qs, l2.same s⟩
    | 2, e => rw [← Option.some.inj e]; exact ⟨_, rfl, qu, l3.same s⟩
    | 3, e => rw [← Option.some.inj e]; exact ⟨_, rfl, qh, l4.same s⟩
  refine ⟨fun σ G => σ = [some (.ref B), some (.ref a), none, none, none, none, none, none] ∧ Same H G, ?_, ?_⟩
  · refine ⟨_, rfl, a, rfl, ⟨_, SqL.of ha⟩, fun D nD => ?_⟩
    refine lc_acc (walk_list (K := K) (a := a) (xs := [v1, v2, v3, v4])) (fun i _ y => ∃ b, y = .bl b) (fun _ _ _ _ _ h _ _ => h) nD (by show 4 ≤ 900; decide) (fun H2 s2 => SqL.of (s2 _ _ ha)) ?_ ?_
    · rintro i x H2 H3 kk hi s2 ⟨rfl, hz⟩ hk
      obtain ⟨r, _, qr, lx⟩ := at4 s2 hz
      have := lsz qr
      exact ⟨rfl, _, rfl, x, _, rfl, lx, by rw [List.length_cons]; omega, fun H4 s4 => hk _ _ s4 ⟨_, rfl⟩⟩
    · intro H2 zs s2 hD hl hR
      obtain ⟨bs, rfl, _⟩ := bl_of zs (P := fun _ _ => True) fun i y e => by
        obtain ⟨b, hb⟩ := hR i y e
        exact ⟨b, hb, trivial⟩
      exact ⟨D, bs, rfl, SqL.of hD, _, rfl, ite2 (fun _ => q _ ((hb.same s2).less (by omega)) (But.same s2)) (fun _ => ⟨rfl, s2⟩)⟩
  rintro σ G ⟨rfl, sG⟩
  refine ⟨fun σ G => ∃ (t : Addr) (x0 x1 x2 x3 : V), σ = [some (.ref B), some (.ref a), none, some (.ref t), none, none, none, none] ∧ Same H G ∧ t ≠ B ∧ G t = some (.lst [x0, x1, x2, x3]) ∧ StAt K S G x0 ff ∧ StAt K S G x1 ss ∧ StAt K S G x2 uu ∧ StAt K S G x3 hh, ?_, ?_⟩
  · refine ⟨_, rfl, a, rfl, ⟨_, SqL.of (sG _ _ ha)⟩, fun D nD => ?_⟩
    refine lc_accD (walk_list (K := K) (a := a) (xs := [v1, v2, v3, v4])) (fun i H' y => ∀ r, [ff, ss, uu, hh][i]? = some r → StFr K S D H' y r) (fun i H1 H2 y l h hD s r hr => (h r hr).butL hD s) nD (by show 4 ≤ 900; decide) (fun H2 s2 => SqL.of (s2 _ _ (sG _ _ ha))) ?_ ?_
    · rintro i x H2 H3 kk hi s2 hDl ⟨rfl, hz⟩ hk
      obtain ⟨r, er, qr, lx⟩ := at4 (sG.trans s2) hz
      have := lsz qr
      obtain ⟨b, ys, rfl, hb', ny⟩ := lx
      refine ⟨rfl, _, rfl, 1, rfl, b, ys, rfl, SqL.of hb', fun c nc => ?_⟩
      rw [show cutV ys (some 1) none = ys.drop 1 from cut_drop ys 1]
      have s4 := new_same nc (HO.lst (ys.drop 1))
      refine fun x2 dx2 xn dn en => ?_
      refine step_newR (.inl upd_same) ((ny.drop 1).same s4) (by show 2 ≤ r.length; omega) (by show r.length ≤ 24; omega) xn dn en fun G2 s5 hX => ⟨rfl, hk _ _ (s4.trans s5) fun r' hr' => ?_⟩
      rw [er] at hr'
      rw [← Option.some.inj hr']
      obtain ⟨l, hl⟩ := hDl
      exact hX D (by rw [s4 _ _ hl]; intro z; cases z)
    · intro H2 zs s2 hD hl hR
      obtain ⟨x0, x1, x2, x3, rfl⟩ : ∃ x0 x1 x2 x3, zs = [x0, x1, x2, x3] := by
        match zs, hl with
        | [x0, x1, x2, x3], _ => exact ⟨_, _, _, _, rfl⟩
      exact ⟨D, x0, x1, x2, x3, rfl, sG.trans s2, (hb.same sG |>.at nD).1, hD, (hR 0 _ rfl _ rfl).at, (hR 1 _ rfl _ rfl).at, (hR 2 _ rfl _ rfl).at, (hR 3 _ rfl _ rfl).at⟩
  clear sG
  rintro σ G ⟨t, x0, x1, x2, x3, rfl, sG, tB, ht, y0, y1, y2, y3⟩
  refine ⟨fun σ G => ∃ y : Addr, σ = [some (.ref B), some (.ref a), none, some (.ref t), some (.ref y), none, none, none] ∧ Same H G ∧ G t = some (.lst [x0, x1, x2, x3]) ∧ StAt K S G x0 ff ∧ StAt K S G x1 ss ∧ StAt K S G x2 uu ∧ StAt K S G x3 hh ∧ PtAt PT G (.ref y) x0 x1 x2 x3, ?_, ?_⟩
  · refine ⟨_, rfl, t, _, 0, _, rfl, rfl, SqL.of ht, rfl, _, rfl, t, _, 1, _, rfl, rfl, SqL.of ht, rfl, _, rfl, t, _, 2, _, rfl, rfl, SqL.of ht, rfl, _, rfl, t, _, 3, _, rfl, rfl, SqL.of ht, rfl, fun y dy ny ndy ne => pt_new ny ndy ne fun H2 s2 hy => ⟨rfl, y, rfl, sG.trans s2, s2 _ _ ht, y0.same s2, y1.same s2, y2.same s2, y3.same s2, hy⟩⟩
  clear ht y0 y1 y2 y3 sG
  rintro σ G ⟨y, rfl, sG, ht, y0, y1, y2, y3, hy⟩
  refine ⟨fun σ G => ∃ y : Addr, σ = [some (.ref B), some (.ref a), none, some (.ref t), some (.ref y), none, none, none] ∧ But B H G ∧ Bag n G B p ∧ StAt K S G x0 ff ∧ StAt K S G x1 ss ∧ StAt K S G x2 uu ∧ StAt K S G x3 hh ∧ PtAt PT G (.ref y) x0 x1 x2 x3, ?_, ?_⟩
  · have b0 := hb.same sG
    refine ⟨_, rfl, n, B, p, 2, rfl, by decide, by decide, b0, fun H1 k b1 u1 k0 k1 => ?_⟩
    have g1 := Go.of u1
    have w0 := y0.go b0 g1
    have w1 := y1.go b0 g1
    have w2 := y2.go b0 g1
    have w3 := y3.go b0 g1
    have ht1 := u1 _ _ tB ht
    have uu1 := (But.same sG).trans u1
    refine ⟨rfl, _, rfl, ite2 (fun _ => ?_) (fun _ => ⟨y, rfl, uu1, b1, w0, w1, w2, w3, hy.go b0 g1⟩)⟩
    refine ⟨_, rfl, t, _, 3, _, rfl, rfl, SqL.of ht1, rfl, _, rfl, t, _, 2, _, rfl, rfl, SqL.of ht1, rfl, _, rfl, t, _, 1, _, rfl, rfl, SqL.of ht1, rfl, _, rfl, t, _, 0, _, rfl, rfl, SqL.of ht1, rfl, rfl, rfl, fun y dy ny ndy ne => pt_new ny ndy ne fun H2 s2 hy => ⟨rfl, y, rfl, uu1.trans (But.same s2), b1.same s2, w0.same s2, w1.same s2, w2.same s2, w3.same s2, hy⟩⟩
  clear ht y0 y1 y2 y3 sG hy
  rintro σ G ⟨y, rfl, uG, bG, y0, y1, y2, y3, hy⟩
  have h4' := h4.go aB hb uG
  clear l1 l2 l3 l4 ha at4
  obtain ⟨⟨v1, v2, v3, v4, ha, l1, l2, l3, l4⟩, _, _, _, _⟩ := id h4'
  obtain ⟨f2, f8⟩ := lsz qf
  obtain ⟨s2', s8⟩ := lsz qs
  obtain ⟨u2', u8⟩ := lsz qu
  obtain ⟨h2', h8⟩ := lsz qh
  refine ⟨fun σ G2 => ∃ vd, σ = [some (.ref B), some (.ref a), none, some (.ref t), some (.ref y), some vd, none, none] ∧ Same G G2 ∧ PvAt G2 vd (wrgD ff ss uu hh), ?_, ?_⟩
  · exact ⟨_, rfl, a, v1, v2, v3, v4, ff, ss, uu, hh, rfl, ha, l1, l2, l3, l4, f2, s2', u2', h2', by omega, by omega, by omega, by omega, fun _ _ _ _ _ => du_ok22 qs qu qh j2, gives_of fun vd H' s' pv => ⟨vd, rfl, s', pv⟩⟩
  rintro σ G2 ⟨vd, rfl, sG, pd⟩
  refine ⟨fun σ G3 => σ = [some (.ref B), some (.ref a), none, some (.ref t), some (.ref y), some vd, none, none] ∧ Same G G3, ?_, ?_⟩
  · obtain ⟨y', dy, ey, hy0⟩ := id hy
    obtain rfl := V.ref.inj ey
    have ask : ∀ {G' : Hp} {R : VK} {E' : XK}, Same G G' → (∀ v H', Same G' H' → PvAt H' v (wrgD ff ss uu hh) → R v H') → spWrg K S PT [.ref y] G' R E' := fun {G' R E'} s' r => ⟨.ref y, x0, x1, x2, x3, ff, ss, uu, hh, rfl, hy.same s', y0.same s', y1.same s', y2.same s', y3.same s', fun _ _ _ _ _ => wr_ok22 qf qs qu qh j2, gives_of r⟩
    refine ⟨_, rfl, y, dy, _, rfl, sG _ _ hy0, rfl, ask (E' := E) sG fun w1 H1 s1 p1 => ?_⟩
    refine ⟨_, rfl, y, dy, _, rfl, (sG.trans s1) _ _ hy0, rfl, ask (E' := E) (sG.trans s1) fun w2 H2 s2 p2 => ?_⟩
    refine ⟨_, rfl, y, PT, dy, _, _, rfl, (sG.trans (s1.trans s2)) _ _ hy0, U.pk.c, U.pk.nA _ (by simp [ptN]), rfl, (by show 3 ≤ sizeLine; decide), fun t1 n1 => ?_⟩
    have s3 := new_same n1 (HO.lst [w1, w2, .str "parting"])
    refine ⟨_, rfl, _, rfl, (by show 3 ≤ sizeLine; decide), fun t2 n2 => ?_⟩
    have s4 := new_same n2 (HO.lst [vd, vd, .str "parting"])
    have sA := s1.trans (s2.trans (s3.trans s4))
    have pd' := pd.same sA
    refine ⟨_, _, rfl, Lk.lst (n := 2) (s4 _ _ upd_same) upd_same (by show 3 ≤ 60; decide) (.cons ((p1.same (s2.trans (s3.trans s4))).lk pd') (.cons ((p2.same (s3.trans s4)).lk pd') (.cons (Lk.flat rfl) .nil))), fun H' s' => ⟨_, rfl, iteF ⟨rfl, sG.trans (sA.trans s')⟩⟩⟩
  clear sG pd
  rintro σ G3 ⟨rfl, sG⟩
  obtain ⟨y', dy, ey, hy0⟩ := id hy
  obtain rfl := V.ref.inj ey
  have hy3 := sG _ _ hy0
  refine ⟨fun σ G4 => ∃ t4 : Addr, σ = [some (.ref B), some (.ref a), none, some (.ref t), some (.ref y), some vd, some (.ref t4), none] ∧ Same G G4 ∧ G4 t4 = some (.lst [x0, x1, x2, x3]), ?_, ?_⟩
  · refine ⟨_, rfl, y, PT, dy, _, _, rfl, hy3, U.pk.c, U.pk.nA _ (by simp [ptN]), rfl, _, rfl, y, PT, dy, _, _, rfl, hy3, U.pk.c, U.pk.nA _ (by simp [ptN]), rfl, _, rfl, y, PT, dy, _, _, rfl, hy3, U.pk.c, U.pk.nA _ (by simp [ptN]), rfl, _, rfl, y, PT, dy, _, _, rfl, hy3, U.pk.c, U.pk.nA _ (by simp [ptN]), rfl, (by show 4 ≤ sizeLine; decide), fun t4 n4 => ?_⟩
    exact ⟨t4, rfl, sG.trans (new_same n4 _), upd_same⟩
  clear sG hy3
  rintro σ G4 ⟨t4, rfl, sG, ht4⟩
  refine ⟨_, rfl, .ref y, .ref PA, .ref PT, .ref PA, true, rfl, .own PA, U.pI.ty _ _ _ _ (sG _ _ hy0), U.pI.kia, _, rfl, iteT ?_⟩
  refine ⟨_, rfl, _, rfl, t4, a, _, _, rfl, SqL.of ht4, SqL.of (sG _ _ ha), fun D nD => ?_⟩
  refine lc_acc (walk_zip (K := K) (a := t4) (b := a) (xs := [x0, x1, x2, x3]) (ys := [v1, v2, v3, v4]) (n := 4) rfl) (fun i _ y => y = .bl true) (fun _ _ _ _ _ h _ _ => h) nD (by decide) (fun H' s => ⟨SqL.of (s _ _ ht4), SqL.of (s _ _ (sG _ _ ha))⟩) ?_ ?_
  · rintro i x H2 H3 k hi s2 ⟨T, z1, z2, rfl, hT, rfl, e1, e2⟩ hk
    have sT := new_same hT (.tup [z1, z2])
    have sB := sG.trans (s2.trans sT)
    have it : ∀ {H5 : Hp}, Same G H5 → ∃ r, StAt K S H5 z1 r ∧ Ls K H5 z2 (0 :: r) := fun {H5} sB => by
      match i, e1, e2 with
      | 0, e1, e2 => rw [← Option.some.inj e1, ← Option.some.inj e2]; exact ⟨_, y0.same sB, l1.same sB⟩
      | 1, e1, e2 => rw [← Option.some.inj e1, ← Option.some.inj e2]; exact ⟨_, y1.same sB, l2.same sB⟩
      | 2, e1, e2 => rw [← Option.some.inj e1, ← Option.some.inj e2]; exact ⟨_, y2.same sB, l3.same sB⟩
      | 3, e1, e2 => rw [← Option.some.inj e1, ← Option.some.inj e2]; exact ⟨_, y3.same sB, l4.same sB⟩
    obtain ⟨r, hS, hL⟩ := it sB
    exact ⟨T, _, rfl, SqT.of upd_same, rfl, _, _, rfl, _, _, rfl, rfl, rfl, _, rfl, _, rfl, _, _, r, rfl, hS, hL, fun H4 s4 => hk _ _ (sT.trans s4) rfl⟩
  · intro H2 zs s2 hD hl hR
    obtain ⟨bs, rfl, hb2⟩ := bl_of zs (P := fun _ b => b = true) fun i y e => ⟨true, hR i y e, rfl⟩
    refine ⟨D, bs, rfl, SqL.of hD, ?_⟩
    rw [show bs.all id = true from List.all_eq_true.mpr fun b hb' => by
      obtain ⟨i, hi⟩ := List.getElem?_of_mem hb'
      exact hb2 i b hi]
    exact q _ (bG.same (sG.trans s2)) (uG.trans (But.same (sG.trans s2)))
end
end Kx
end
section
set_option maxHeartbeats 4000000
namespace Kx
open PySem PySem.Spec PyProof.Rows L2 RZ
/-! ### once, and the law -/
theorem F4.ne {K : PySem.W.Frag} {H : Hp} {j n : Nat} {a B p : Addr} {f s u h : List Rat} (x : F4 K H j a f s u h) (b : Bag n H B p) : a ≠ B := fun e => by
  obtain ⟨v1, v2, v3, v4, ha, _⟩ := x.ex
  obtain ⟨ns, i, r, sd, c, h1, _⟩ := b.ex
  rw [e, h1] at ha
  have := HO.lst.inj (Option.some.inj ha)
  have := congrArg List.length this
  revert this
  show ¬ (bagL p i r sd c).length = 4
  show ¬ 5 = 4
  decide
def spOnc : Sp := fun vs H Q _ => ∃ (n : Nat) (B p : Addr), vs = [.ref B] ∧ Bag (n + 150) H B p ∧ ∀ H', Bag n H' B p → Q (.bl true) H'
def spLaw (K : PySem.W.Frag) (T : List (Addr × Str)) : Sp := fun vs H Q _ => ∃ (a : Addr) (ns : List Int), vs = [.ref a] ∧ SqL K H a (ns.map V.int) ∧ LamX.Tabs T H ∧ ∀ H', Q (.bl true) H'
abbrev nOnc : List Str := ["_law_bag_here", "_law_four", "_law_bad"]
section
variable {P : Program} {w : World} {K : PySem.W.Frag} {mg : Str → Option Value} {base : Heap} {f C S PT PA CF CO : Addr} {fd : FuncData} {T : List (Addr × Str)}
theorem scOnc : FnScope nOnc ["_law_bag_here"] (defScope L_once) := ⟨rfl, rfl, rfl, by decide +kernel, rfl, by decide +kernel, by decide +kernel⟩
theorem ok_once (F : Fun K "_law_once" "_law_once" L_once f fd) (U : Kit22 P w K mg base C S PT PA CF CO) (UJ : Use P w K mg base CX0 10 "_law_judged" ["_law_bag_here", "_law_four"] (spJud K) []) : FnOk P w K mg base CX0 11 f fd ["_law_bag_here"] spOnc := by
  refine F.ok scOnc (fun vs H Q E h => ?_) (fun cdv A outer s H vs Q E hr h => ?_)
  · obtain ⟨n, B, p, rfl, _⟩ := h
    rfl
  obtain ⟨n, B, p, rfl, hb, q⟩ := h
  have hr1 := hr.mono (show 1 ≤ 10 by decide)
  have hr3 := hr.mono (show 3 ≤ 10 by decide)
  have hr4 := hr.mono (show 4 ≤ 10 by decide)
  have hr7 := hr.mono (show 7 ≤ 10 by decide)
  have hr10 := hr
  refine ⟨_, (C8.pss_cut (ps_set (i := 1) scOnc.nd rfl (Or.inl rfl) (pe_use U.ppr hr7 rfl pass0 (pa_cons (pv 0) (pa_cons (pe_callB (call_min2 rfl) rfl U.mm (by decide +kernel) (pa_cons pe_int (pa_cons (pe_use U.ord hr3 rfl pass0 (pa_cons (pv 0) pa_nil)) pa_nil))) pa_nil))))
    (C8.pss_cut (ps_if (PW.pt (pw_or (pt_cmpR op_notN (pe_use U.due hr4 rfl pass0 (pa_cons (pv 1) pa_nil)) pe_non (nomark _)) (pw_or1 (pt_not (pt_val (pe_use UJ hr10 rfl pass0 (pa_cons (pv 0) (pa_cons (pv 1) pa_nil)))))))) (pss_one (ps_ret pe_bl)) pss_nil)
    (C8.pss_cut (ps_set (i := 2) scOnc.nd rfl (Or.inl rfl) (pe_use U.spt hr4 rfl pass0 (pa_cons (pv 0) (pa_cons (pv 1) pa_nil))))
    (C8.pss_cut (ps_if (pt_not (pt_val (pe_use UJ hr10 rfl pass0 (pa_cons (pv 0) (pa_cons (pv 2) pa_nil))))) (pss_one (ps_ret pe_bl)) pss_nil)
    (C8.pss_cut (ps_set (i := 2) scOnc.nd rfl (Or.inl rfl) (pe_use U.spt hr4 rfl pass0 (pa_cons (pv 0) (pa_cons (pe_ifExp (pt_cmpR op_eq (pe_use U.draw hr1 rfl pass0 (pa_cons (pv 0) (pa_cons pe_int pa_nil))) pe_int (nomark _)) (pv 2) (pv 1)) pa_nil))))
    (pss_one (ps_ret (pe_and (pe_use UJ hr10 rfl pass0 (pa_cons (pv 0) (pa_cons (pv 2) pa_nil))) (pe_one (pe_use UJ hr10 rfl pass0 (pa_cons (pv 0) (pa_cons (pv 1) pa_nil)))))))))))), ?_⟩
  refine ⟨fun σ G => ∃ (a : Addr) (ff ss uu hh : List Rat), σ = [some (.ref B), some (.ref a), none] ∧ Bag (n + 26) G B p ∧ F4 K G 0 a ff ss uu hh ∧ wrgD ff ss uu hh = none, ?_, ?_⟩
  · refine ⟨_, rfl, _, rfl, n + 148, B, p, rfl, hb, fun H1 k b1 u1 k2 k11 => ?_⟩
    refine ⟨6, (k : Int), rfl, n + 26, B, p, (if (k : Int) < 6 then (k : Int) else 6).toNat, ?_, b1.less (by omega), by split <;> omega, by split <;> omega, fun H2 a ff ss uu hh b2 u2 na x4 wn => ⟨a, ff, ss, uu, hh, rfl, b2, x4, wn⟩⟩
    have e : (((if (k : Int) < 6 then (k : Int) else 6).toNat : Nat) : Int) = if (k : Int) < 6 then (k : Int) else 6 := by split <;> omega
    rw [e]
    rfl
  clear hb
  rintro σ G ⟨a, ff, ss, uu, hh, rfl, hb, h4, wn⟩
  have aB := h4.ne hb
  refine ⟨fun σ G => σ = [some (.ref B), some (.ref a), none] ∧ Bag (n + 25) G B p ∧ F4 K G 0 a ff ss uu hh, ?_, ?_⟩
  · obtain ⟨⟨v1, v2, v3, v4, ha, l1, l2, l3, l4⟩, qf, qs, qu, qh⟩ := id h4
    have := qf.hi; have := qs.hi; have := qu.hi; have := qh.hi
    refine ⟨_, rfl, a, v1, v2, v3, v4, ff, ss, uu, hh, rfl, ha, l1, l2, l3, l4, qf.lo, qs.lo, qu.lo, qh.lo, by omega, by omega, by omega, by omega, fun _ _ _ _ _ => du_ok22 qs qu qh (by decide), ?_⟩
    rw [wn]
    refine fun H1 s1 => ⟨rfl, _, rfl, iteF ?_⟩
    have b1 := hb.same s1
    have x1 := h4.go aB hb (But.same s1)
    exact ⟨_, rfl, _, rfl, n + 25, B, p, a, 0, ff, ss, uu, hh, rfl, b1, x1, by decide, aB, fun H2 b2 u2 => ⟨_, rfl, iteF ⟨rfl, b2, x1.go aB b1 u2⟩⟩⟩
  clear hb h4
  rintro σ G ⟨rfl, hb, h4⟩
  refine ⟨fun σ G => ∃ (b : Addr) (f' s' u' h' : List Rat), σ = [some (.ref B), some (.ref a), some (.ref b)] ∧ Bag (n + 15) G B p ∧ F4 K G 0 a ff ss uu hh ∧ F4 K G 1 b f' s' u' h' ∧ b ≠ B, ?_, ?_⟩
  · exact ⟨_, rfl, _, rfl, n + 15, B, p, a, 0, ff, ss, uu, hh, rfl, hb, h4, by decide, aB, fun H1 b f' s' u' h' b1 u1 bB x1 => ⟨b, f', s', u', h', rfl, b1, h4.go aB hb u1, x1, bB⟩⟩
  clear hb h4
  rintro σ G ⟨b, f', s', u', h', rfl, hb, h4, x4, bB⟩
  refine ⟨fun σ G => σ = [some (.ref B), some (.ref a), some (.ref b)] ∧ Bag (n + 14) G B p ∧ F4 K G 0 a ff ss uu hh ∧ F4 K G 1 b f' s' u' h', ?_, ?_⟩
  · exact ⟨_, rfl, _, rfl, n + 14, B, p, b, 1, f', s', u', h', rfl, hb, x4, by decide, bB, fun H2 b2 u2 => ⟨_, rfl, iteF ⟨rfl, b2, h4.go aB hb u2, x4.go bB hb u2⟩⟩⟩
  clear hb h4 x4
  rintro σ G ⟨rfl, hb, h4, x4⟩
  refine ⟨fun σ G => ∃ (d : Addr) (j : Nat) (f' s' u' h' : List Rat), σ = [some (.ref B), some (.ref a), some (.ref d)] ∧ Bag (n + 1 + 1) G B p ∧ F4 K G 0 a ff ss uu hh ∧ F4 K G j d f' s' u' h' ∧ d ≠ B ∧ j ≤ 2, ?_, ?_⟩
  · refine ⟨_, rfl, _, rfl, n + 12, B, p, 3, rfl, by decide, by decide, hb.less (by omega), fun H1 k b1 u1 k0 k1 => ⟨rfl, _, rfl, ?_⟩⟩
    have h1 := h4.go aB hb u1
    refine ite2 (fun _ => ?_) (fun _ => ?_)
    · exact ⟨_, rfl, n + 2, B, p, b, 1, f', s', u', h', rfl, b1.less (by omega), x4.go bB hb u1, by decide, bB, fun H2 d f2 s2 u2' h2 b2 u2 dB x2 => ⟨d, 2, f2, s2, u2', h2, rfl, b2, h1.go aB b1 u2, x2, dB, by decide⟩⟩
    · exact ⟨_, rfl, n + 2, B, p, a, 0, ff, ss, uu, hh, rfl, b1.less (by omega), h1, by decide, aB, fun H2 d f2 s2 u2' h2 b2 u2 dB x2 => ⟨d, 1, f2, s2, u2', h2, rfl, b2, h1.go aB b1 u2, x2, dB, by decide⟩⟩
  clear hb h4 x4
  rintro σ G ⟨d, j, f2, s2, u2', h2, rfl, hb, h4, x4, dB, j2⟩
  refine ⟨_, rfl, _, rfl, n + 1, B, p, d, j, f2, s2, u2', h2, rfl, hb, x4, j2, dB, fun H2 b2 u2 => ⟨_, rfl, iteT ?_⟩⟩
  exact ⟨_, rfl, _, rfl, n, B, p, a, 0, ff, ss, uu, hh, rfl, b2, h4.go aB hb u2, by decide, aB, fun H3 b3 u3 => q H3 b3⟩
abbrev nLaw : List Str := ["_law_script", "_law_bag_here", "_law_turn"]
theorem scLaw : FnScope nLaw ["_law_script"] (defScope L_law) := ⟨rfl, rfl, rfl, by decide +kernel, rfl, by decide +kernel, by decide +kernel⟩
theorem ok_law (F : Fun K "law" "law" L_law f fd) (mr : mg "range" = none) (UB : Use P w K mg base CX0 1 "_law_bag" ["_law_script"] (spBag K) []) (UO : Use P w K mg base CX0 11 "_law_once" ["_law_bag_here"] spOnc []) : FnOk P w K mg base CX0 12 f fd ["_law_script"] (spLaw K T) := by
  refine F.ok scLaw (fun vs H Q E h => ?_) (fun cdv A outer s H vs Q E hr h => ?_)
  · obtain ⟨a, ns, rfl, _⟩ := h
    rfl
  obtain ⟨a0, ns, rfl, ha0, hT, q⟩ := h
  have hr1 := hr.mono (show 1 ≤ 11 by decide)
  refine ⟨_, pss_cons (ps_set (i := 1) scLaw.nd rfl (Or.inl rfl) (pe_use UB hr1 rfl pass0 (pa_cons (pv 0) pa_nil)))
    (pss_cons (ps_for PassesOwn.never rfl (pi_range1 rfl mr (pa_cons pe_int pa_nil)) (pg_name (i := 2) scLaw.nd rfl (Or.inl rfl))
      (pss_one (ps_if (pt_not (pt_val (pe_use UO hr rfl pass0 (pa_cons (pv 1) pa_nil)))) (pss_one (ps_ret pe_bl)) pss_nil)))
    (pss_one (ps_ret pe_bl))), ?_⟩
  refine ⟨_, rfl, a0, ns, rfl, ha0, fun H1 B p s1 nb hb => ?_⟩
  refine ⟨_, rfl, by decide, by decide, for_range (lo := 0) (n := 3) (fun i σ H' => ∃ v2, σ = [some (.ref a0), some (.ref B), v2] ∧ Bag (1000000 - 150 * i) H' B p ) ⟨none, rfl, hb⟩ ?_ ?_⟩
  · rintro i σ H3 hi ⟨v2, rfl, b3⟩
    exact ⟨_, rfl, 1000000 - 150 * (i + 1), B, p, rfl, b3.less (by omega), fun H4 b4 => ⟨_, rfl, iteF ⟨_, rfl, b4⟩⟩⟩
  · rintro σ H3 ⟨v2, rfl, b3⟩
    exact q _
end
end Kx
end
section
set_option maxHeartbeats 4000000
namespace Kx
open PySem PySem.Spec PyProof.Rows L2
theorem kpB_ok {K : PySem.W.Frag} {a : Addr} {x y : Int} (h : kpB K a x y = true) : KP K a x y := by
  unfold kpB at h
  split at h
  · rename_i c d its n sl q
    obtain ⟨h1, h⟩ := He.ba h
    obtain ⟨h2, h3⟩ := He.ba h
    exact ⟨_, its, n, q, congrArg Value.type (of_decide_eq_true h1), rfl, of_decide_eq_true h2, He.relAll_ok h3⟩
  · cases h
theorem owT_ok {K : PySem.W.Frag} {C iA : Addr} {ns : List Str} (h : owT K C iA ns = true) :
    Cls K C ∧ (∀ n ∈ ns, NoAttr K C n) ∧ Mk K C iA ∧ ∀ (H : Hp) a dx fs, H a = some (.ins C dx fs) → TyX K H (.ref a) (.ref C) := by
  unfold owT at h
  obtain ⟨a1, h⟩ := He.ba h
  obtain ⟨a2, h⟩ := He.ba h
  obtain ⟨a3, h⟩ := He.ba h
  obtain ⟨a4, h⟩ := He.ba h
  obtain ⟨a5, h⟩ := He.ba h
  obtain ⟨a6, h⟩ := He.ba h
  obtain ⟨a7, h⟩ := He.ba h
  obtain ⟨a8, h⟩ := He.ba h
  obtain ⟨a9, h⟩ := He.ba h
  obtain ⟨b6, h⟩ := He.ba h
  obtain ⟨b7, h⟩ := He.ba h
  obtain ⟨b8, b9⟩ := He.ba h
  have cls : Cls K C := ⟨a1, a2, a3, He.eqO_ok a4⟩
  exact ⟨cls, fun n hn => He.eqO_ok (List.all_eq_true.mp a5 n hn), ⟨a6, He.eqO_ok a7, a8, a9⟩,
    fun H a dx fs e => .base (.ins e cls (He.eqO_ok b6) (He.eqO_ok b7) (of_decide_eq_true b8) (of_decide_eq_true b9))⟩
theorem rdB_ok {K : PySem.W.Frag} {C : Addr} (h : rdB K C = true) : ClX.CRead K C (.type "type") := by
  unfold rdB at h
  obtain ⟨b4, b5⟩ := He.ba h
  exact ⟨b4, He.eqO_ok b5⟩
theorem stB_ok {K : PySem.W.Frag} {C sA gA : Addr} {m : Str} (h : stB K C sA gA m = true) (hk : PySem.W.keepIn K (.ref gA) = true) : CSta K C (.type "type") m sA gA := by
  unfold stB at h
  obtain ⟨b1, h⟩ := He.ba h
  obtain ⟨b2, b3⟩ := He.ba h
  obtain ⟨w1, w2⟩ := He5.wrapB_ok b1
  rw [of_decide_eq_true b2] at w1 w2
  rw [of_decide_eq_true b3] at w2
  exact ⟨w1, w2, hk⟩
theorem cfnB_ok {K : PySem.W.Frag} {C gA : Addr} {m : Str} (h : cfnB K C gA m = true) (hk : PySem.W.keepIn K (.ref gA) = true) : CFn K C (.type "type") m gA := by
  unfold cfnB at h
  split at h
  · rename_i v e
    exact ⟨by rw [e, of_decide_eq_true h], hk⟩
  · cases h
theorem exB_ok {K : PySem.W.Frag} {C iA : Addr} {mb : List Value} {nw : String} {ns : List Str} (h : exB K C iA mb nw ns = true) (hb : ∃ B iid, ExcBaseFacts B nw iid mb ∧ StoreFacts B mb "object.__setattr__" "object") :
    XC K C ∧ PySem.W.typeIn K (.ref C) = some (.type "type") ∧ PySem.W.findIn K (.ref C) "__init__" = some (some (.ref iA)) ∧ PySem.W.isFn K (.ref iA) = true ∧ ∀ n ∈ ns, PySem.W.findIn K (.ref C) n = some none := by
  unfold exB at h
  obtain ⟨B, iid, FB, SF⟩ := hb
  obtain ⟨a1, h⟩ := He.ba h
  obtain ⟨a2, h⟩ := He.ba h
  obtain ⟨a3, h⟩ := He.ba h
  obtain ⟨a4, h⟩ := He.ba h
  obtain ⟨a5, h⟩ := He.ba h
  obtain ⟨a6, h⟩ := He.ba h
  obtain ⟨a7, h⟩ := He.ba h
  obtain ⟨a8, h⟩ := He.ba h
  obtain ⟨a9, h⟩ := He.ba h
  obtain ⟨b1, h⟩ := He.ba h
  obtain ⟨b2, h⟩ := He.ba h
  obtain ⟨b3, h⟩ := He.ba h
  obtain ⟨b4, h⟩ := He.ba h
  obtain ⟨b5, h⟩ := He.ba h
  obtain ⟨b6, h⟩ := He.ba h
  obtain ⟨b7, b8⟩ := He.ba h
  exact ⟨⟨⟨B, nw, iid, mb, FB, SF, a1, a2⟩, a3, a4, He.eqO_ok a5, He.eqO_ok a6, He.eqO_ok a7, of_decide_eq_true a8, He.eqO_ok a9, He.eqO_ok b1, of_decide_eq_true b2, of_decide_eq_true b3, b4⟩, of_decide_eq_true b5, He.eqO_ok b6, b7, fun n hn => He.eqO_ok (List.all_eq_true.mp b8 n hn)⟩
section
variable {K : PySem.W.Frag}
theorem SaysR.fact (c : SaysR K) (i : Nat) {f : PySem.W.Frag → Bool} (h : faT[i]? = some f := by rfl) : f K = true :=
  List.all_eq_true.mp (He.ba (show ((faT.all fun f => f K) && fnT.all fun d => d.ok K) = true from congrArg (fun z : ObV => z.1) c)).1 f (List.mem_of_getElem? h)
theorem SaysR.def_ (c : SaysR K) (i : Nat) {d : He5.DefA} (h : fnT[i]? = some d) : ∃ fd, L2.FunD K d.name d.qual d.params d.body d.scope (d.dvs K) (d.kws K) (d.at_ K) fd := by
  have c2 := (He.ba (show ((faT.all fun f => f K) && fnT.all fun d => d.ok K) = true from congrArg (fun z : ObV => z.1) c)).2
  have e : fnT.map (fun d => He5.fnA K (d.at_ K)) = fnT.map He5.DefA.val := congrArg (fun z : ObV => z.2) c
  have e2 : (fnT.map fun d => He5.fnA K (d.at_ K))[i]? = (fnT.map He5.DefA.val)[i]? := by rw [e]
  rw [List.getElem?_map, List.getElem?_map, h] at e2
  exact He5.DefA.funD (Option.some.inj e2) (List.all_eq_true.mp c2 d (List.mem_of_getElem? h))
theorem fun_ld (c : SaysR K) (i : Nat) {d : LD} (h : ldT[i]? = some d) : ∃ fd, Fun K d.nm d.nm (top d.ix) d.f fd := by
  obtain ⟨fd, F⟩ := c.def_ (i + 11) (d := ldD d) (by
    show (clT ++ ldT.map ldD)[i + 11]? = _
    rw [List.getElem?_append_right (by show 11 ≤ i + 11; omega)]
    show (ldT.map ldD)[i + 11 - 11]? = _
    rw [Nat.add_sub_cancel, List.getElem?_map, h]
    rfl)
  exact ⟨fd, He5.fun_of F⟩
theorem fun_cl (c : SaysR K) (i : Nat) {q nm : Str} {f : Addr} {st : Stmt} (h : fnT[i]? = some (mtD q nm f st) := by rfl) : ∃ fd, Fun K nm q st f fd := by
  obtain ⟨fd, F⟩ := c.def_ i h
  exact ⟨fd, He5.fun_of F⟩
theorem fun_c {x q : Str} {st : Stmt} {f c : Addr} {fd : FuncData} (F : Fun K x q st f fd) (h : codeB K f c = true) : FunC K x q st f fd c := by
  obtain ⟨oc, od, kV, doc, pm, an, cdv, ct, osl, rfl, lk, hcd⟩ := F.ex
  have e : cdv = .ref c := by
    unfold codeB at h
    rw [lk] at h
    cases cdv <;> first | exact congrArg Value.ref (of_decide_eq_true h) | exact (Bool.false_ne_true h).elim
  subst e
  exact ⟨⟨oc, od, kV, doc, pm, an, ct, osl, rfl, lk, hcd⟩, F.kp⟩
section
variable {h : Heap} {mg : Str → Option Value}
theorem mg_ld (X : K.In h) (G : h.Ns mainGlobals mg) (c : SaysR K) {d : LD} (hd : d ∈ ldT) : mg d.nm = some (.ref d.f) := PySem.W.mg_of X G (He.eqO_ok (List.all_eq_true.mp (c.fact 0) d hd))
theorem mg_free (X : K.In h) (G : h.Ns mainGlobals mg) (c : SaysR K) {x : Str} (hx : x ∈ freeN) : mg x = none := PySem.W.mg_none_of X G (He.eqO_ok (List.all_eq_true.mp (c.fact 1) x hx))
theorem mg_at (X : K.In h) (G : h.Ns mainGlobals mg) {x : Str} {v : Value} (e : He.eqO (PySem.W.nsIn K mainGlobals x) (some (some v)) = true) : mg x = some v := PySem.W.mg_of X G (He.eqO_ok e)
theorem at_ld (X : K.In h) (G : h.Ns mainGlobals mg) (c : SaysR K) {d : LD} (i : Nat) (e : ldT[i]? = some d) : (∃ fd, Fun K d.nm d.nm (top d.ix) d.f fd) ∧ mg d.nm = some (.ref d.f) := ⟨fun_ld c i e, mg_ld X G c (List.mem_of_getElem? e)⟩
end
end
end Kx
end
section
set_option maxHeartbeats 4000000
namespace Kx
open PySem PySem.Spec PyProof.Rows L2
section
variable {P : Program} {w : World} {K : PySem.W.Frag} {mg : Str → Option Value} {h base : Heap} {CX : CXT} {k : Nat} {x : Str} {f : Addr} {fd : FuncData} {ps ks : List Str} {sp : Sp}
theorem use0 (G : FnOk P w K mg base CX k f fd ps sp) (b : Binds K fd ps []) (kp : PySem.W.keepIn K (.ref f) = true) (m : mg x = some (.ref f)) : Use P w K mg base CX k x ps sp [] := ⟨⟨f, fd, G, b, kp, m, (fun _ h => (nomatch h)), (fun _ h => (nomatch h))⟩⟩
theorem useR (G : FnOk P w K mg base CX k f fd ps sp) (b : Binds K fd ps []) (kp : PySem.W.keepIn K (.ref f) = true) (m : mg x = some (.ref f)) (kb : KBn K fd ps 0 ks revB revA) (hl : ¬ (ks.length = 1 ∧ ps.length = 2)) : Use P w K mg base CX k x ps sp [ks] :=
  ⟨⟨f, fd, G, b, kp, m, fun ks' h _ => by rw [List.mem_singleton.mp h]; exact kb, fun ks' h l1 l2 => absurd ⟨by rw [← List.mem_singleton.mp h]; exact l1, l2⟩ hl⟩⟩
theorem useN (G : FnOk P w K mg base CX k f fd ps sp) (b : Binds K fd ps []) (kp : PySem.W.keepIn K (.ref f) = true) (m : mg x = some (.ref f)) (kb : KBn K fd ps 1 ks appB appA) (hl : ks.length ≠ ps.length) : Use P w K mg base CX k x ps sp [ks] :=
  ⟨⟨f, fd, G, b, kp, m, fun ks' h l => absurd (by rw [← List.mem_singleton.mp h]; exact l) hl, fun ks' h _ _ => by rw [List.mem_singleton.mp h]; exact kb⟩⟩
end
def csT : List (Addr × Addr) := []
abbrev lmN (x : Str) : Str := (x ++ ".<locals>.") ++ "<lambda>"
def tbT : List (Addr × Str) := []
section
variable {P : Program} {w : World} {K : PySem.W.Frag} {mg : Str → Option Value} {h : Heap}
theorem facts {f : Addr} (X : K.In h) (G : h.Ns mainGlobals mg) (hfa : mg ("law" : Str) = some (.ref f)) (c : SaysR K) :
    ∃ fd : FuncData, (∀ (s : Shared) (v : Value), BindsTo s fd ⟨[v], []⟩ [("_law_script", v)]) ∧ ∀ base : Heap, K.In base → base.Ns mainGlobals mg → (∀ p ∈ csT, LamX.TabB base mg p.1 p.2) → FnOk P w K mg base CX0 12 f fd ["_law_script"] (spLaw K tbT) := by
  have mf : ∀ x ∈ freeN, mg x = none := fun x hx => mg_free X G c hx
  have mn := mf "len" (by decide)
  have mI := mf "isinstance" (by decide)
  have ml := mf "list" (by decide)
  have mt := mf "tuple" (by decide)
  have mi := mf "int" (by decide)
  have mr := mf "range" (by decide)
  have ma := mf "all" (by decide)
  have mz := mf "zip" (by decide)
  have mb := mf "bool" (by decide)
  have ms := mf "str" (by decide)
  have mabs := mf "abs" (by decide)
  have men := mf "enumerate" (by decide)
  have msum := mf "sum" (by decide)
  have mmin := mf "min" (by decide)
  have mG : mg "gcd" = some (.builtin "math.gcd") := mg_at X G (c.fact 2)
  have mLc : mg "lcm" = some (.builtin "math.lcm") := mg_at X G (c.fact 3)
  have mS : mg "Step" = some (.ref stA) := mg_at X G (c.fact 4)
  have mPA : mg "Paper" = some (.ref paA) := mg_at X G (c.fact 5)
  have mPT : mg "Parting" = some (.ref ptA) := mg_at X G (c.fact 6)
  have mZ : mg "ZERO" = some (.ref zeA) := mg_at X G (c.fact 7)
  have mO : mg "ONE" = some (.ref onA) := mg_at X G (c.fact 8)
  have mM : mg "MINUS_ONE" = some (.ref moA) := mg_at X G (c.fact 9)
  have mC : mg "CreepError" = some (.ref ceA) := mg_at X G (c.fact 10)
  have mLO : ∃ u, mg "LOWEST_ORDER" = some u ∧ RelV (.int 2) u := let ⟨t, e⟩ := He.int_ok X G (c.fact 11); ⟨_, e, t, rfl⟩
  have mHO : ∃ u, mg "HIGHEST_ORDER" = some u ∧ RelV (.int 24) u := let ⟨t, e⟩ := He.int_ok X G (c.fact 12); ⟨_, e, t, rfl⟩
  have mMP : ∃ u, mg "MOST_POWER" = some u ∧ RelV (.int 64) u := let ⟨t, e⟩ := He.int_ok X G (c.fact 13); ⟨_, e, t, rfl⟩
  have k0 : KP K zeA 0 1 := kpB_ok (c.fact 14)
  have k1 : KP K onA 1 1 := kpB_ok (c.fact 15)
  have km : KP K moA (-1) 1 := kpB_ok (c.fact 16)
  obtain ⟨dm0, Fm0⟩ := fun_cl c 0
  obtain ⟨dm1, Fm1⟩ := fun_cl c 1
  obtain ⟨dm2, Fm2⟩ := fun_cl c 2
  obtain ⟨dm3, Fm3⟩ := fun_cl c 3
  obtain ⟨dm4, Fm4⟩ := fun_cl c 4
  obtain ⟨dm5, Fm5⟩ := fun_cl c 5
  obtain ⟨dm6, Fm6⟩ := fun_cl c 6
  obtain ⟨dm7, Fm7⟩ := fun_cl c 7
  obtain ⟨dm8, Fm8⟩ := fun_cl c 8
  obtain ⟨dm9, Fm9⟩ := fun_cl c 9
  obtain ⟨dm10, Fm10⟩ := fun_cl c 10
  obtain ⟨clS, nAS, MkS, tyS'⟩ := owT_ok (c.fact 17)
  obtain ⟨clP, nAP, MkP, tyP'⟩ := owT_ok (c.fact 18)
  obtain ⟨x0, ty0, i0, fi0, n0⟩ := exB_ok (c.fact 28) ⟨_, _, F.excBase_ValueError, F.store_ValueError⟩
  obtain ⟨x1, ty1, i1, fi1, n1⟩ := exB_ok (c.fact 29) ⟨_, _, F.excBase_ValueError, F.store_ValueError⟩
  obtain ⟨x2, ty2, i2, fi2, n2⟩ := exB_ok (c.fact 30) ⟨_, _, F.excBase_ValueError, F.store_ValueError⟩
  obtain ⟨⟨d_is_whole, F_is_whole⟩, g_is_whole⟩ := at_ld X G c 0 rfl
  obtain ⟨⟨d_is_between, F_is_between⟩, g_is_between⟩ := at_ld X G c 1 rfl
  obtain ⟨⟨d_is_fraction, F_is_fraction⟩, g_is_fraction⟩ := at_ld X G c 2 rfl
  obtain ⟨⟨d_ratio, F_ratio⟩, g_ratio⟩ := at_ld X G c 3 rfl
  obtain ⟨⟨d_difference_of, F_difference_of⟩, g_difference_of⟩ := at_ld X G c 4 rfl
  obtain ⟨⟨d_product_of, F_product_of⟩, g_product_of⟩ := at_ld X G c 5 rfl
  obtain ⟨⟨d_quotient_of, F_quotient_of⟩, g_quotient_of⟩ := at_ld X G c 6 rfl
  obtain ⟨⟨d_is_listing, F_is_listing⟩, g_is_listing⟩ := at_ld X G c 7 rfl
  obtain ⟨⟨d_check_order, F_check_order⟩, g_check_order⟩ := at_ld X G c 8 rfl
  obtain ⟨⟨d_check_orders, F_check_orders⟩, g_check_orders⟩ := at_ld X G c 9 rfl
  obtain ⟨⟨d_check_number, F_check_number⟩, g_check_number⟩ := at_ld X G c 10 rfl
  obtain ⟨⟨d_wrong_item, F_wrong_item⟩, g_wrong_item⟩ := at_ld X G c 11 rfl
  obtain ⟨⟨d_check_fractions, F_check_fractions⟩, g_check_fractions⟩ := at_ld X G c 12 rfl
  obtain ⟨⟨d_checked_numbers, F_checked_numbers⟩, g_checked_numbers⟩ := at_ld X G c 13 rfl
  obtain ⟨⟨d_is_zero, F_is_zero⟩, g_is_zero⟩ := at_ld X G c 14 rfl
  obtain ⟨⟨d_least_place, F_least_place⟩, g_least_place⟩ := at_ld X G c 15 rfl
  obtain ⟨⟨d_dot, F_dot⟩, g_dot⟩ := at_ld X G c 16 rfl
  obtain ⟨⟨d_mixed, F_mixed⟩, g_mixed⟩ := at_ld X G c 17 rfl
  obtain ⟨⟨d_over_one_lower, F_over_one_lower⟩, g_over_one_lower⟩ := at_ld X G c 18 rfl
  obtain ⟨⟨d_multiplied, F_multiplied⟩, g_multiplied⟩ := at_ld X G c 19 rfl
  obtain ⟨⟨d_still_numbers, F_still_numbers⟩, g_still_numbers⟩ := at_ld X G c 20 rfl
  obtain ⟨⟨d_table_lines, F_table_lines⟩, g_table_lines⟩ := at_ld X G c 21 rfl
  obtain ⟨⟨d_put_behind, F_put_behind⟩, g_put_behind⟩ := at_ld X G c 22 rfl
  obtain ⟨⟨d_kind_of, F_kind_of⟩, g_kind_of⟩ := at_ld X G c 23 rfl
  obtain ⟨⟨d_first_difference, F_first_difference⟩, g_first_difference⟩ := at_ld X G c 24 rfl
  obtain ⟨⟨d_unequal_sides, F_unequal_sides⟩, g_unequal_sides⟩ := at_ld X G c 25 rfl
  obtain ⟨⟨d__law_bag, F__law_bag⟩, g__law_bag⟩ := at_ld X G c 26 rfl
  obtain ⟨⟨d__law_draw, F__law_draw⟩, g__law_draw⟩ := at_ld X G c 27 rfl
  obtain ⟨⟨d__law_of, F__law_of⟩, g__law_of⟩ := at_ld X G c 28 rfl
  obtain ⟨⟨d__law_same, F__law_same⟩, g__law_same⟩ := at_ld X G c 29 rfl
  obtain ⟨⟨d__law_low, F__law_low⟩, g__law_low⟩ := at_ld X G c 30 rfl
  obtain ⟨⟨d__law_add, F__law_add⟩, g__law_add⟩ := at_ld X G c 31 rfl
  obtain ⟨⟨d__law_sub, F__law_sub⟩, g__law_sub⟩ := at_ld X G c 32 rfl
  obtain ⟨⟨d__law_mul, F__law_mul⟩, g__law_mul⟩ := at_ld X G c 33 rfl
  obtain ⟨⟨d__law_div, F__law_div⟩, g__law_div⟩ := at_ld X G c 34 rfl
  obtain ⟨⟨d__law_plus, F__law_plus⟩, g__law_plus⟩ := at_ld X G c 35 rfl
  obtain ⟨⟨d__law_less, F__law_less⟩, g__law_less⟩ := at_ld X G c 36 rfl
  obtain ⟨⟨d__law_scaled, F__law_scaled⟩, g__law_scaled⟩ := at_ld X G c 37 rfl
  obtain ⟨⟨d__law_zeros, F__law_zeros⟩, g__law_zeros⟩ := at_ld X G c 38 rfl
  obtain ⟨⟨d__law_x, F__law_x⟩, g__law_x⟩ := at_ld X G c 39 rfl
  obtain ⟨⟨d__law_whole, F__law_whole⟩, g__law_whole⟩ := at_ld X G c 40 rfl
  obtain ⟨⟨d__law_conv, F__law_conv⟩, g__law_conv⟩ := at_ld X G c 41 rfl
  obtain ⟨⟨d__law_prod, F__law_prod⟩, g__law_prod⟩ := at_ld X G c 42 rfl
  obtain ⟨⟨d__law_put, F__law_put⟩, g__law_put⟩ := at_ld X G c 43 rfl
  obtain ⟨⟨d__law_led, F__law_led⟩, g__law_led⟩ := at_ld X G c 44 rfl
  obtain ⟨⟨d__law_back, F__law_back⟩, g__law_back⟩ := at_ld X G c 45 rfl
  obtain ⟨⟨d__law_first, F__law_first⟩, g__law_first⟩ := at_ld X G c 46 rfl
  obtain ⟨⟨d__law_num, F__law_num⟩, g__law_num⟩ := at_ld X G c 47 rfl
  obtain ⟨⟨d__law_not0, F__law_not0⟩, g__law_not0⟩ := at_ld X G c 48 rfl
  obtain ⟨⟨d__law_wide, F__law_wide⟩, g__law_wide⟩ := at_ld X G c 49 rfl
  obtain ⟨⟨d__law_order, F__law_order⟩, g__law_order⟩ := at_ld X G c 50 rfl
  obtain ⟨⟨d__law_flat, F__law_flat⟩, g__law_flat⟩ := at_ld X G c 51 rfl
  obtain ⟨⟨d__law_tail, F__law_tail⟩, g__law_tail⟩ := at_ld X G c 52 rfl
  obtain ⟨⟨d__law_creep, F__law_creep⟩, g__law_creep⟩ := at_ld X G c 53 rfl
  obtain ⟨⟨d__law_slow, F__law_slow⟩, g__law_slow⟩ := at_ld X G c 54 rfl
  obtain ⟨⟨d__law_step, F__law_step⟩, g__law_step⟩ := at_ld X G c 55 rfl
  obtain ⟨⟨d__law_renamer, F__law_renamer⟩, g__law_renamer⟩ := at_ld X G c 56 rfl
  obtain ⟨⟨d__law_is_step, F__law_is_step⟩, g__law_is_step⟩ := at_ld X G c 57 rfl
  obtain ⟨⟨d__law_unled, F__law_unled⟩, g__law_unled⟩ := at_ld X G c 58 rfl
  obtain ⟨⟨d__law_scaling, F__law_scaling⟩, g__law_scaling⟩ := at_ld X G c 59 rfl
  obtain ⟨⟨d__law_odd_step, F__law_odd_step⟩, g__law_odd_step⟩ := at_ld X G c 60 rfl
  obtain ⟨⟨d__law_flipped, F__law_flipped⟩, g__law_flipped⟩ := at_ld X G c 61 rfl
  obtain ⟨⟨d__law_fits, F__law_fits⟩, g__law_fits⟩ := at_ld X G c 62 rfl
  obtain ⟨⟨d__law_paper, F__law_paper⟩, g__law_paper⟩ := at_ld X G c 63 rfl
  obtain ⟨⟨d__law_spoilt, F__law_spoilt⟩, g__law_spoilt⟩ := at_ld X G c 64 rfl
  obtain ⟨⟨d__law_due, F__law_due⟩, g__law_due⟩ := at_ld X G c 65 rfl
  obtain ⟨⟨d__law_judged, F__law_judged⟩, g__law_judged⟩ := at_ld X G c 66 rfl
  obtain ⟨⟨d__law_once, F__law_once⟩, g__law_once⟩ := at_ld X G c 67 rfl
  obtain ⟨⟨d_law, F_law⟩, g_law⟩ := at_ld X G c 68 rfl
  have b_is_whole : Binds K d_is_whole ["value"] [] := F_is_whole.binds fun _ _ _ _ _ _ us hl => match us, hl with | [_], _ => rfl
  have b_is_between : Binds K d_is_between ["value", "low", "high"] [] := F_is_between.binds fun _ _ _ _ _ _ us hl => match us, hl with | [_, _, _], _ => rfl
  have b_is_fraction : Binds K d_is_fraction ["value"] [] := F_is_fraction.binds fun _ _ _ _ _ _ us hl => match us, hl with | [_], _ => rfl
  have b_ratio : Binds K d_ratio ["upper", "lower"] [] := F_ratio.binds fun _ _ _ _ _ _ us hl => match us, hl with | [_, _], _ => rfl
  have b_difference_of : Binds K d_difference_of ["one", "other"] [] := F_difference_of.binds fun _ _ _ _ _ _ us hl => match us, hl with | [_, _], _ => rfl
  have b_product_of : Binds K d_product_of ["one", "other"] [] := F_product_of.binds fun _ _ _ _ _ _ us hl => match us, hl with | [_, _], _ => rfl
  have b_quotient_of : Binds K d_quotient_of ["one", "other"] [] := F_quotient_of.binds fun _ _ _ _ _ _ us hl => match us, hl with | [_, _], _ => rfl
  have b_is_listing : Binds K d_is_listing ["value"] [] := F_is_listing.binds fun _ _ _ _ _ _ us hl => match us, hl with | [_], _ => rfl
  have b_check_order : Binds K d_check_order ["order"] [] := F_check_order.binds fun _ _ _ _ _ _ us hl => match us, hl with | [_], _ => rfl
  have b_check_orders : Binds K d_check_orders ["one", "other"] [] := F_check_orders.binds fun _ _ _ _ _ _ us hl => match us, hl with | [_, _], _ => rfl
  have b_check_number : Binds K d_check_number ["value"] [] := F_check_number.binds fun _ _ _ _ _ _ us hl => match us, hl with | [_], _ => rfl
  have b_wrong_item : Binds K d_wrong_item ["numbers"] [] := F_wrong_item.binds fun _ _ _ _ _ _ us hl => match us, hl with | [_], _ => rfl
  have b_check_fractions : Binds K d_check_fractions ["numbers"] [] := F_check_fractions.binds fun _ _ _ _ _ _ us hl => match us, hl with | [_], _ => rfl
  have b_checked_numbers : Binds K d_checked_numbers ["numbers", "further"] [] := F_checked_numbers.binds fun _ _ _ _ _ _ us hl => match us, hl with | [_, _], _ => rfl
  have b_is_zero : Binds K d_is_zero ["numbers"] [] := F_is_zero.binds fun _ _ _ _ _ _ us hl => match us, hl with | [_], _ => rfl
  have b_least_place : Binds K d_least_place ["numbers", "first"] [] := F_least_place.binds fun _ _ _ _ _ _ us hl => match us, hl with | [_, _], _ => rfl
  have b_dot : Binds K d_dot ["ones", "others"] [] := F_dot.binds fun _ _ _ _ _ _ us hl => match us, hl with | [_, _], _ => rfl
  have b_mixed : Binds K d_mixed ["factors", "lists"] [] := F_mixed.binds fun _ _ _ _ _ _ us hl => match us, hl with | [_, _], _ => rfl
  have b_over_one_lower : Binds K d_over_one_lower ["numbers"] [] := F_over_one_lower.binds fun _ _ _ _ _ _ us hl => match us, hl with | [_], _ => rfl
  have b_multiplied : Binds K d_multiplied ["one", "other"] [] := F_multiplied.binds fun _ _ _ _ _ _ us hl => match us, hl with | [_, _], _ => rfl
  have b_still_numbers : Binds K d_still_numbers ["order"] [] := F_still_numbers.binds fun _ _ _ _ _ _ us hl => match us, hl with | [_], _ => rfl
  have b_table_lines : Binds K d_table_lines ["numbers"] [] := F_table_lines.binds fun _ _ _ _ _ _ us hl => match us, hl with | [_], _ => rfl
  have b_put_behind : Binds K d_put_behind ["one", "other"] [] := F_put_behind.binds fun _ _ _ _ _ _ us hl => match us, hl with | [_, _], _ => rfl
  have b_kind_of : Binds K d_kind_of ["numbers"] [] := F_kind_of.binds fun _ _ _ _ _ _ us hl => match us, hl with | [_], _ => rfl
  have b_first_difference : Binds K d_first_difference ["one", "other"] [] := F_first_difference.binds fun _ _ _ _ _ _ us hl => match us, hl with | [_, _], _ => rfl
  have b_unequal_sides : Binds K d_unequal_sides ["check", "one", "other"] [] := F_unequal_sides.binds fun _ _ _ _ _ _ us hl => match us, hl with | [_, _, _], _ => rfl
  have b__law_bag : Binds K d__law_bag ["_law_script"] [] := F__law_bag.binds fun _ _ _ _ _ _ us hl => match us, hl with | [_], _ => rfl
  have b__law_draw : Binds K d__law_draw ["_law_bag_here", "_law_many_y"] [] := F__law_draw.binds fun _ _ _ _ _ _ us hl => match us, hl with | [_, _], _ => rfl
  have b__law_of : Binds K d__law_of ["_law_bag_here", "_law_things"] [] := F__law_of.binds fun _ _ _ _ _ _ us hl => match us, hl with | [_, _], _ => rfl
  have b__law_same : Binds K d__law_same ["_law_found", "_law_due_here"] [] := F__law_same.binds fun _ _ _ _ _ _ us hl => match us, hl with | [_, _], _ => rfl
  have b__law_low : Binds K d__law_low ["_law_num_here", "_law_den"] [] := F__law_low.binds fun _ _ _ _ _ _ us hl => match us, hl with | [_, _], _ => rfl
  have b__law_add : Binds K d__law_add ["_law_p", "_law_q"] [] := F__law_add.binds fun _ _ _ _ _ _ us hl => match us, hl with | [_, _], _ => rfl
  have b__law_sub : Binds K d__law_sub ["_law_p", "_law_q"] [] := F__law_sub.binds fun _ _ _ _ _ _ us hl => match us, hl with | [_, _], _ => rfl
  have b__law_mul : Binds K d__law_mul ["_law_p", "_law_q"] [] := F__law_mul.binds fun _ _ _ _ _ _ us hl => match us, hl with | [_, _], _ => rfl
  have b__law_div : Binds K d__law_div ["_law_p", "_law_q"] [] := F__law_div.binds fun _ _ _ _ _ _ us hl => match us, hl with | [_, _], _ => rfl
  have b__law_plus : Binds K d__law_plus ["_law_u", "_law_w"] [] := F__law_plus.binds fun _ _ _ _ _ _ us hl => match us, hl with | [_, _], _ => rfl
  have b__law_less : Binds K d__law_less ["_law_u", "_law_w"] [] := F__law_less.binds fun _ _ _ _ _ _ us hl => match us, hl with | [_, _], _ => rfl
  have b__law_scaled : Binds K d__law_scaled ["_law_u", "_law_p"] [] := F__law_scaled.binds fun _ _ _ _ _ _ us hl => match us, hl with | [_, _], _ => rfl
  have b__law_zeros : Binds K d__law_zeros ["_law_many_y"] [] := F__law_zeros.binds fun _ _ _ _ _ _ us hl => match us, hl with | [_], _ => rfl
  have b__law_x : Binds K d__law_x ["_law_deg"] [] := F__law_x.binds fun _ _ _ _ _ _ us hl => match us, hl with | [_], _ => rfl
  have b__law_whole : Binds K d__law_whole ["_law_u"] [] := F__law_whole.binds fun _ _ _ _ _ _ us hl => match us, hl with | [_], _ => rfl
  have b__law_conv : Binds K d__law_conv ["_law_xs", "_law_ys"] [] := F__law_conv.binds fun _ _ _ _ _ _ us hl => match us, hl with | [_, _], _ => rfl
  have b__law_prod : Binds K d__law_prod ["_law_u", "_law_w"] [] := F__law_prod.binds fun _ _ _ _ _ _ us hl => match us, hl with | [_, _], _ => rfl
  have b__law_put : Binds K d__law_put ["_law_u", "_law_f"] [] := F__law_put.binds fun _ _ _ _ _ _ us hl => match us, hl with | [_, _], _ => rfl
  have b__law_led : Binds K d__law_led ["_law_goal", "_law_h"] [] := F__law_led.binds fun _ _ _ _ _ _ us hl => match us, hl with | [_, _], _ => rfl
  have b__law_back : Binds K d__law_back ["_law_h"] [] := F__law_back.binds fun _ _ _ _ _ _ us hl => match us, hl with | [_], _ => rfl
  have b__law_first : Binds K d__law_first ["_law_u", "_law_w"] [] := F__law_first.binds fun _ _ _ _ _ _ us hl => match us, hl with | [_, _], _ => rfl
  have b__law_num : Binds K d__law_num ["_law_bag_here"] [] := F__law_num.binds fun _ _ _ _ _ _ us hl => match us, hl with | [_], _ => rfl
  have b__law_not0 : Binds K d__law_not0 ["_law_bag_here"] [] := F__law_not0.binds fun _ _ _ _ _ _ us hl => match us, hl with | [_], _ => rfl
  have b__law_wide : Binds K d__law_wide ["_law_bag_here"] [] := F__law_wide.binds fun _ _ _ _ _ _ us hl => match us, hl with | [_], _ => rfl
  have b__law_order : Binds K d__law_order ["_law_bag_here"] [] := F__law_order.binds fun _ _ _ _ _ _ us hl => match us, hl with | [_], _ => rfl
  have b__law_flat : Binds K d__law_flat ["_law_bag_here", "_law_deg"] [] := F__law_flat.binds fun _ _ _ _ _ _ us hl => match us, hl with | [_, _], _ => rfl
  have b__law_tail : Binds K d__law_tail ["_law_bag_here", "_law_deg", "_law_kk"] [] := F__law_tail.binds fun _ _ _ _ _ _ us hl => match us, hl with | [_, _, _], _ => rfl
  have b__law_creep : Binds K d__law_creep ["_law_bag_here", "_law_deg", "_law_kk"] [] := F__law_creep.binds fun _ _ _ _ _ _ us hl => match us, hl with | [_, _, _], _ => rfl
  have b__law_slow : Binds K d__law_slow ["_law_bag_here", "_law_deg"] [] := F__law_slow.binds fun _ _ _ _ _ _ us hl => match us, hl with | [_, _], _ => rfl
  have b__law_step : Binds K d__law_step ["_law_bag_here", "_law_deg", "_law_cc"] [] := F__law_step.binds fun _ _ _ _ _ _ us hl => match us, hl with | [_, _, _], _ => rfl
  have b__law_renamer : Binds K d__law_renamer ["_law_bag_here", "_law_deg"] [] := F__law_renamer.binds fun _ _ _ _ _ _ us hl => match us, hl with | [_, _], _ => rfl
  have b__law_is_step : Binds K d__law_is_step ["_law_told", "_law_f"] [] := F__law_is_step.binds fun _ _ _ _ _ _ us hl => match us, hl with | [_, _], _ => rfl
  have b__law_unled : Binds K d__law_unled ["_law_f", "_law_g"] [] := F__law_unled.binds fun _ _ _ _ _ _ us hl => match us, hl with | [_, _], _ => rfl
  have b__law_scaling : Binds K d__law_scaling ["_law_cc", "_law_deg"] [] := F__law_scaling.binds fun _ _ _ _ _ _ us hl => match us, hl with | [_, _], _ => rfl
  have b__law_odd_step : Binds K d__law_odd_step ["_law_bag_here", "_law_deg"] [] := F__law_odd_step.binds fun _ _ _ _ _ _ us hl => match us, hl with | [_, _], _ => rfl
  have b__law_flipped : Binds K d__law_flipped ["_law_f"] [] := F__law_flipped.binds fun _ _ _ _ _ _ us hl => match us, hl with | [_], _ => rfl
  have b__law_fits : Binds K d__law_fits ["_law_u"] [] := F__law_fits.binds fun _ _ _ _ _ _ us hl => match us, hl with | [_], _ => rfl
  have b__law_paper : Binds K d__law_paper ["_law_bag_here", "_law_deg"] [] := F__law_paper.binds fun _ _ _ _ _ _ us hl => match us, hl with | [_, _], _ => rfl
  have b__law_spoilt : Binds K d__law_spoilt ["_law_bag_here", "_law_four"] [] := F__law_spoilt.binds fun _ _ _ _ _ _ us hl => match us, hl with | [_, _], _ => rfl
  have b__law_due : Binds K d__law_due ["_law_four"] [] := F__law_due.binds fun _ _ _ _ _ _ us hl => match us, hl with | [_], _ => rfl
  have b__law_judged : Binds K d__law_judged ["_law_bag_here", "_law_four"] [] := F__law_judged.binds fun _ _ _ _ _ _ us hl => match us, hl with | [_, _], _ => rfl
  have b__law_once : Binds K d__law_once ["_law_bag_here"] [] := F__law_once.binds fun _ _ _ _ _ _ us hl => match us, hl with | [_], _ => rfl
  have b_law : Binds K d_law ["_law_script"] [] := F_law.binds fun _ _ _ _ _ _ us hl => match us, hl with | [_], _ => rfl
  have bm0 : Binds K dm0 ["self", "numbers"] [] := Fm0.binds fun _ _ _ _ _ _ us hl => match us, hl with | [_, _], _ => rfl
  have bm1 : Binds K dm1 ["order"] [] := Fm1.binds fun _ _ _ _ _ _ us hl => match us, hl with | [_], _ => rfl
  have bm2 : Binds K dm2 ["lead", "order"] [] := Fm2.binds fun _ _ _ _ _ _ us hl => match us, hl with | [_, _], _ => rfl
  have bm3 : Binds K dm3 ["self"] [] := Fm3.binds fun _ _ _ _ _ _ us hl => match us, hl with | [_], _ => rfl
  have bm4 : Binds K dm4 ["self", "other"] [] := Fm4.binds fun _ _ _ _ _ _ us hl => match us, hl with | [_, _], _ => rfl
  have bm5 : Binds K dm5 ["self", "title"] [] := Fm5.binds fun _ _ _ _ _ _ us hl => match us, hl with | [_, _], _ => rfl
  have bm6 : Binds K dm6 ["self", "step", "pure", "slow", "straightener"] [] := Fm6.binds fun _ _ _ _ _ _ us hl => match us, hl with | [_, _, _, _, _], _ => rfl
  have bm7 : Binds K dm7 ["self"] [] := Fm7.binds fun _ _ _ _ _ _ us hl => match us, hl with | [_], _ => rfl
  have bm8 : Binds K dm8 ["self", "value"] [] := Fm8.binds fun _ _ _ _ _ _ us hl => match us, hl with | [_, _], _ => rfl
  have bm9 : Binds K dm9 ["self", "at"] [] := Fm9.binds fun _ _ _ _ _ _ us hl => match us, hl with | [_, _], _ => rfl
  have bm10 : Binds K dm10 ["self", "one", "other"] [] := Fm10.binds fun _ _ _ _ _ _ us hl => match us, hl with | [_, _, _], _ => rfl
  have e : f = 988 := Value.ref.inj (Option.some.inj (hfa.symm.trans g_law))
  subst e
  refine ⟨d_law, fun s v => ?_, fun base _ _ hTB => ?_⟩
  · obtain ⟨oc, od, kV, doc, pm, an, cdv, ct, osl, e, lk, hcd⟩ := F_law.ex
    rw [e]
    exact .of_eq rfl
  have Z0 : ErrC P w K mg base "InvalidOrder" 1 (fs1 "InvalidOrder" "value") coA := ⟨x0, ty0, mg_at X G (c.fact 31), 114, dm8, _, i0, fi0, init_3 Fm8 x0 (n0 _ (by decide)) (n0 _ (by decide)), bm8⟩
  have Z1 : ErrC P w K mg base "InvalidFraction" 1 (fs1 "InvalidFraction" "at") cfA := ⟨x1, ty1, mg_at X G (c.fact 32), 95, dm9, _, i1, fi1, init_2 Fm9 x1 (n1 _ (by decide)) (n1 _ (by decide)), bm9⟩
  have Z2 : ErrC P w K mg base "UnlikeOrders" 2 (fs2 "UnlikeOrders" "one" "other") cuA := ⟨x2, ty2, mg_at X G (c.fact 33), 133, dm10, _, i2, fi2, init_5 Fm10 x2 (n2 _ (by decide)) (n2 _ (by decide)) (n2 _ (by decide)), bm10⟩
  have Uw : Use P w K mg base CX0 1 "is_whole" ["value"] (spWhole K) [] := use0 (ok_whole F_is_whole mI mi mb) b_is_whole F_is_whole.kp g_is_whole
  have Ub : Use P w K mg base CX0 2 "is_between" ["value", "low", "high"] (spBtw K) [] := use0 (ok_btw F_is_between Uw) b_is_between F_is_between.kp g_is_between
  have Uf : Use P w K mg base CX0 2 "is_fraction" ["value"] (spIsG K) [] := use0 (ok_isg F_is_fraction mI mt mn mG Uw) b_is_fraction F_is_fraction.kp g_is_fraction
  have Ur : Use P w K mg base CX0 1 "ratio" ["upper", "lower"] spLowQ [] := use0 (ok_ratio F_ratio mG) b_ratio F_ratio.kp g_ratio
  have Uco : Use P w K mg base (L2.CX P w) 3 "check_order" ["order"] (spCo K coA) [] := use0 (ok_corder F_check_order Ub mLO mHO Z0) b_check_order F_check_order.kp g_check_order
  have Ucs : Use P w K mg base (L2.CX P w) 3 "check_orders" ["one", "other"] (spCor K cuA) [] := use0 (ok_corders F_check_orders Z2) b_check_orders F_check_orders.kp g_check_orders
  have Uck : Use P w K mg base CX0 3 "check_number" ["value"] (spCkN K) [] := use0 (ok_cnum F_check_number Uf) b_check_number F_check_number.kp g_check_number
  have Uil : Use P w K mg base CX0 1 "is_listing" ["value"] (spIl K) [] := use0 (ok_listing F_is_listing mI ml mt) b_is_listing F_is_listing.kp g_is_listing
  have Uwi : Use P w K mg base CX0 3 "wrong_item" ["numbers"] (spWi K) [] := use0 (ok_wrong F_wrong_item men Uf) b_wrong_item F_wrong_item.kp g_wrong_item
  have Ucf : Use P w K mg base (L2.CX P w) 4 "check_fractions" ["numbers"] (spCf K cfA) [] := use0 (ok_cfrac F_check_fractions Uwi Z1) b_check_fractions F_check_fractions.kp g_check_fractions
  have Ucn : Use P w K mg base (L2.CX P w) 5 "checked_numbers" ["numbers", "further"] (spCn K cfA coA) [] := use0 (ok_checked F_checked_numbers mn ml Uil Uco Ucf Z1) b_checked_numbers F_checked_numbers.kp g_checked_numbers
  have Uiz : Use P w K mg base CX0 1 "is_zero" ["numbers"] (spIz K) [] := use0 (ok_iszero F_is_zero k0 ma mZ) b_is_zero F_is_zero.kp g_is_zero
  have Ulp : Use P w K mg base CX0 1 "least_place" ["numbers", "first"] (spLp K) [] := use0 (ok_least F_least_place k0 men mZ) b_least_place F_least_place.kp g_least_place
  have Uol : Use P w K mg base CX0 1 "over_one_lower" ["numbers"] (spOol K) [] := use0 (ok_ool F_over_one_lower mLc) b_over_one_lower F_over_one_lower.kp g_over_one_lower
  have Umd : Use P w K mg base CX0 2 "multiplied" ["one", "other"] (spMulL K) [] := use0 (ok_multiplied F_multiplied mn mr msum Uol Ur) b_multiplied F_multiplied.kp g_multiplied
  have Utb : Use P w K mg base CX0 3 "table_lines" ["numbers"] (spTab K) [] := use0 (ok_tab F_table_lines k0 mZ mn Umd) b_table_lines F_table_lines.kp g_table_lines
  have Udo : Use P w K mg base CX0 2 "dot" ["ones", "others"] (spDot K) [] := use0 (ok_dot F_dot mz mLc Ur) b_dot F_dot.kp g_dot
  have Umx : Use P w K mg base CX0 3 "mixed" ["factors", "lists"] (spMix K) [] := use0 (ok_mixed F_mixed mn mr Udo) b_mixed F_mixed.kp g_mixed
  have Usn : Use P w K mg base CX0 1 "still_numbers" ["order"] (spSn K) [] := use0 (ok_stilln F_still_numbers k1 k0 mZ mO) b_still_numbers F_still_numbers.kp g_still_numbers
  have Upb : Use P w K mg base CX0 4 "put_behind" ["one", "other"] (spPut K) [] := use0 (ok_put F_put_behind Umx Utb) b_put_behind F_put_behind.kp g_put_behind
  have Uko : Use P w K mg base CX0 2 "kind_of" ["numbers"] (spKo K) [] := use0 (ok_kind F_kind_of k1 k0 km mZ mO mM Uiz) b_kind_of F_kind_of.kp g_kind_of
  have sk : StepK P w K mg base ceA stA cfA coA := ⟨clS, nAS, mS, ⟨_, _, MkS, ok_stinitF Fm0 clS nAS mn Ucn Uko Ulp, bm0⟩⟩
  have pk : PtK P w K mg base ptA := ⟨clP, nAP, mPT⟩
  have pI : PtI K ptA paA := ⟨tyP', of_decide_eq_true (c.fact 25), of_decide_eq_true (c.fact 26)⟩
  have mt' : ∀ t ∈ mtT, PySem.W.findIn K (.ref t.1) t.2.2 = some (some (.ref t.2.1)) ∧ PySem.W.isFn K (.ref t.2.1) = true := fun t ht => by
    obtain ⟨h1, h2⟩ := He.ba (List.all_eq_true.mp (c.fact 34) t ht)
    exact ⟨He.eqO_ok h1, h2⟩
  have stc : StcK P w K mg base stA := ⟨rdB_ok (c.fact 19), ⟨_, _, _, stB_ok (c.fact 21) Fm1.kp, ok_still Fm1 sk Uco Usn, bm1⟩, ⟨_, _, _, stB_ok (c.fact 22) Fm2.kp, ok_sclO Fm2 sk k0 mZ Uck Uco, bm2⟩⟩
  have cfn : CFn K paA (.type "type") "__init__" 666 := cfnB_ok (c.fact 23) Fm5.kp
  have Mnu : MUse P w K mg base CX0 1 stA "numbers" ["self"] (spNuS K stA) [] := ⟨⟨547, dm3, ⟨(mt' (stA, 547, "numbers") (by simp [mtT])).1, (mt' (stA, 547, "numbers") (by simp [mtT])).2, Fm3.kp⟩, ok_snumbers Fm3 sk ml, bm3, fun ks hk => nomatch hk⟩, clS⟩
  have Osm : OpM P w K mg base (L2.CX P w) 8 stA "__mul__" (spOpS K stA cuA) := ⟨⟨603, dm4, _, (mt' (stA, 603, "__mul__") (by simp [mtT])).1, (mt' (stA, 603, "__mul__") (by simp [mtT])).2, ok_smul Fm4 sk Ucs Upb Mnu, bm4⟩, c.fact 27⟩
  have Ufd : Use P w K mg base (L2.CX P w) 4 "first_difference" ["one", "other"] (spFd K stA cuA) [] := use0 (ok_first F_first_difference sk Ucs Mnu men mz) b_first_difference F_first_difference.kp g_first_difference
  have Uuq : Use P w K mg base (L2.CX P w) 5 "unequal_sides" ["check", "one", "other"] (spUnq K stA) [] := use0 (ok_unq F_unequal_sides Ufd) b_unequal_sides F_unequal_sides.kp g_unequal_sides
  have Mwr : MUse P w K mg base (L2.CX P w) 9 ptA "wrong" ["self"] (spWrg K stA ptA) [] := ⟨⟨708, dm7, ⟨(mt' (ptA, 708, "wrong") (by simp [mtT])).1, (mt' (ptA, 708, "wrong") (by simp [mtT])).2, Fm7.kp⟩, ok_wrg Fm7 pk sk stc k0 k1 mZ mO Osm Uuq, bm7, fun ks hk => nomatch hk⟩, clP⟩
  have Ldr : Use P w K mg base CX0 1 "_law_draw" ["_law_bag_here", "_law_many_y"] spDraw [] := use0 (ok_draw F__law_draw mn mi) b__law_draw F__law_draw.kp g__law_draw
  have Lof : Use P w K mg base CX0 2 "_law_of" ["_law_bag_here", "_law_things"] spOfL [] := use0 (ok_ofL F__law_of (ok_draw F__law_draw mn mi) b__law_draw F__law_draw.kp g__law_draw mn) b__law_of F__law_of.kp g__law_of
  have Glo := ok_low (P := P) (w := w) (base := base) F__law_low mabs mi
  have Llo : Use P w K mg base CX0 1 "_law_low" ["_law_num_here", "_law_den"] spLowQ [] := use0 (Glo) b__law_low F__law_low.kp g__law_low
  have Lad : Use P w K mg base CX0 2 "_law_add" ["_law_p", "_law_q"] (spTwoQ K (· + ·)) [] := use0 (ok_addQ F__law_add Glo b__law_low F__law_low.kp g__law_low) b__law_add F__law_add.kp g__law_add
  have Lsb : Use P w K mg base CX0 2 "_law_sub" ["_law_p", "_law_q"] (spTwoQ K (· - ·)) [] := use0 (ok_subQ F__law_sub Glo b__law_low F__law_low.kp g__law_low) b__law_sub F__law_sub.kp g__law_sub
  have Lmu : Use P w K mg base CX0 2 "_law_mul" ["_law_p", "_law_q"] (spTwoQ K (· * ·)) [] := use0 (ok_mulQ F__law_mul Glo b__law_low F__law_low.kp g__law_low) b__law_mul F__law_mul.kp g__law_mul
  have Ldv : Use P w K mg base CX0 2 "_law_div" ["_law_p", "_law_q"] (spDivQ K) [] := use0 (ok_divQ F__law_div Glo b__law_low F__law_low.kp g__law_low) b__law_div F__law_div.kp g__law_div
  have Lpl : Use P w K mg base CX0 3 "_law_plus" ["_law_u", "_law_w"] (spTwoL K (· + ·)) [] := use0 (ok_lplus F__law_plus mz Lad) b__law_plus F__law_plus.kp g__law_plus
  have Lle : Use P w K mg base CX0 3 "_law_less" ["_law_u", "_law_w"] (spTwoL K (· - ·)) [] := use0 (ok_lless F__law_less mz Lsb) b__law_less F__law_less.kp g__law_less
  have Lsc : Use P w K mg base CX0 3 "_law_scaled" ["_law_u", "_law_p"] (spMulsL K) [] := use0 (ok_lscaled F__law_scaled Lmu) b__law_scaled F__law_scaled.kp g__law_scaled
  have Lze : Use P w K mg base CX0 1 "_law_zeros" ["_law_many_y"] (spZeros K) [] := use0 (ok_lzeros F__law_zeros) b__law_zeros F__law_zeros.kp g__law_zeros
  have Lx : Use P w K mg base CX0 1 "_law_x" ["_law_deg"] (spX K) [] := use0 (ok_lx F__law_x) b__law_x F__law_x.kp g__law_x
  have Lwh : Use P w K mg base CX0 1 "_law_whole" ["_law_u"] (spOol K) [] := use0 (ok_lwhole F__law_whole mi) b__law_whole F__law_whole.kp g__law_whole
  have Lcv : Use P w K mg base CX0 1 "_law_conv" ["_law_xs", "_law_ys"] (spConv K) [] := use0 (ok_lconv F__law_conv mn mr) b__law_conv F__law_conv.kp g__law_conv
  have Lpd : Use P w K mg base CX0 2 "_law_prod" ["_law_u", "_law_w"] (spPrd K) [] := use0 (ok_lprod F__law_prod Lwh Lcv Llo) b__law_prod F__law_prod.kp g__law_prod
  have Lpu : Use P w K mg base CX0 2 "_law_put" ["_law_u", "_law_f"] (spPutL K) [] := use0 (ok_lput F__law_put mn Lwh Lcv Llo) b__law_put F__law_put.kp g__law_put
  have Lld : Use P w K mg base CX0 4 "_law_led" ["_law_goal", "_law_h"] (spLed K) [] := use0 (ok_lled F__law_led mn mr Ldv Lle Lsc Lpd) b__law_led F__law_led.kp g__law_led
  have Lbk : Use P w K mg base CX0 5 "_law_back" ["_law_h"] (spBac K) [] := use0 (ok_lback F__law_back mn Lx Lld) b__law_back F__law_back.kp g__law_back
  have Lfi : Use P w K mg base CX0 1 "_law_first" ["_law_u", "_law_w"] (spFirst K) [] := use0 (ok_lfirst F__law_first mn mr) b__law_first F__law_first.kp g__law_first
  have Lnu : Use P w K mg base CX0 2 "_law_num" ["_law_bag_here"] (spNum K 3 NumQ) [] := use0 (ok_num F__law_num Ldr Llo) b__law_num F__law_num.kp g__law_num
  have Ln0 : Use P w K mg base CX0 3 "_law_not0" ["_law_bag_here"] (spNum K 4 NumQ) [] := use0 (ok_not0 F__law_not0 Lnu Lof) b__law_not0 F__law_not0.kp g__law_not0
  have Lnz : Use P w K mg base CX0 3 "_law_not0" ["_law_bag_here"] (spNum K 4 NumZ) [] := use0 (ok_not0z F__law_not0 Lnu Lof) b__law_not0 F__law_not0.kp g__law_not0
  have Lwi : Use P w K mg base CX0 2 "_law_wide" ["_law_bag_here"] (spNum K 2 WideQ) [] := use0 (ok_wide F__law_wide Ldr Llo) b__law_wide F__law_wide.kp g__law_wide
  have Lor : Use P w K mg base CX0 3 "_law_order" ["_law_bag_here"] spOrd [] := use0 (ok_order F__law_order Ldr Lof) b__law_order F__law_order.kp g__law_order
  have Lfl : Use P w K mg base CX0 3 "_law_flat" ["_law_bag_here", "_law_deg"] spFla [] := use0 (ok_flat F__law_flat mmin Ldr Lof) b__law_flat F__law_flat.kp g__law_flat
  have Lta : Use P w K mg base CX0 4 "_law_tail" ["_law_bag_here", "_law_deg", "_law_kk"] (spTai K) [] := use0 (ok_tail F__law_tail mr Ldr Lnu Ln0 Lwi) b__law_tail F__law_tail.kp g__law_tail
  have Lcr : Use P w K mg base CX0 5 "_law_creep" ["_law_bag_here", "_law_deg", "_law_kk"] (spCre K) [] := use0 (ok_creep F__law_creep Lx Lta Lpl) b__law_creep F__law_creep.kp g__law_creep
  have Lsl : Use P w K mg base CX0 6 "_law_slow" ["_law_bag_here", "_law_deg"] (spSlo K) [] := use0 (ok_slow F__law_slow Ldr Lx Lfl Lcr) b__law_slow F__law_slow.kp g__law_slow
  have Lst : Use P w K mg base CX0 3 "_law_step" ["_law_bag_here", "_law_deg", "_law_cc"] (spStp K) [] := use0 (ok_stp F__law_step mr Lnu) b__law_step F__law_step.kp g__law_step
  have Lrn : Use P w K mg base CX0 4 "_law_renamer" ["_law_bag_here", "_law_deg"] (spRnm K) [] := use0 (ok_renamer F__law_renamer Lof Lst) b__law_renamer F__law_renamer.kp g__law_renamer
  have L0 : FnOk P w K mg base CX0 2 _ _ _ (spLike K 0) := ok_like F__law_same b__law_same g__law_same (fun n' e => by cases e) mI ml mt mb ms mi mn mz ma
  have L1 : FnOk P w K mg base CX0 3 _ _ _ (spLike K 1) := ok_like F__law_same b__law_same g__law_same (fun n' e => by cases e; exact L0) mI ml mt mb ms mi mn mz ma
  have L2 : FnOk P w K mg base CX0 4 _ _ _ (spLike K 2) := ok_like F__law_same b__law_same g__law_same (fun n' e => by cases e; exact L1) mI ml mt mb ms mi mn mz ma
  have L3 : FnOk P w K mg base CX0 5 _ _ _ (spLike K 3) := ok_like F__law_same b__law_same g__law_same (fun n' e => by cases e; exact L2) mI ml mt mb ms mi mn mz ma
  have Lls : Use P w K mg base CX0 5 "_law_same" ["_law_found", "_law_due_here"] (spLike K 3) [] := use0 (L3) b__law_same F__law_same.kp g__law_same
  have Lis : Use P w K mg base CX0 6 "_law_is_step" ["_law_told", "_law_f"] (spIst K stA) [] := use0 (ok_isstep F__law_is_step sk mn Mnu Lls) b__law_is_step F__law_is_step.kp g__law_is_step
  have Lul : Use P w K mg base CX0 6 "_law_unled" ["_law_f", "_law_g"] (spUnl K) [] := use0 (ok_unled F__law_unled Lpu Lbk) b__law_unled F__law_unled.kp g__law_unled
  have Lsg : Use P w K mg base CX0 4 "_law_scaling" ["_law_cc", "_law_deg"] (spScg K) [] := use0 (ok_lscaling F__law_scaling Lx Lsc) b__law_scaling F__law_scaling.kp g__law_scaling
  have Los : Use P w K mg base CX0 4 "_law_odd_step" ["_law_bag_here", "_law_deg"] (spOdd K) [] := use0 (ok_odd F__law_odd_step mr Lx Lnu Ln0 Ldr) b__law_odd_step F__law_odd_step.kp g__law_odd_step
  have Lfd : Use P w K mg base CX0 4 "_law_flipped" ["_law_f"] (spFlp K) [] := use0 (ok_flipped F__law_flipped Lsc) b__law_flipped F__law_flipped.kp g__law_flipped
  have Lft : Use P w K mg base CX0 1 "_law_fits" ["_law_u"] (spFts K) [] := use0 (ok_fits F__law_fits ma mabs) b__law_fits F__law_fits.kp g__law_fits
  have Lpp : Use P w K mg base CX0 7 "_law_paper" ["_law_bag_here", "_law_deg"] (spPpr K) [] := use0 (ok_paper F__law_paper Lrn Ldr Lx Lze Lsl Lul Lsg Lof Lsc Lnz Lfd Los Lle Lpu) b__law_paper F__law_paper.kp g__law_paper
  have Lsp : Use P w K mg base CX0 4 "_law_spoilt" ["_law_bag_here", "_law_four"] (spSpt K) [] := use0 (ok_spoilt F__law_spoilt mn ma ml Ldr Lx Lad Lnu Lnz Lpu) b__law_spoilt F__law_spoilt.kp g__law_spoilt
  have Ldu : Use P w K mg base CX0 4 "_law_due" ["_law_four"] (spDue K) [] := use0 (ok_due F__law_due mn ma Lpu Lsc Lfi) b__law_due F__law_due.kp g__law_due
  have kit : Kit22 P w K mg base ceA stA ptA paA cfA coA := { sk := sk, pk := pk, pI := pI, mPA := mPA, ini := ⟨_, _, MkP, ok_ptinit Fm6 pk mPA (rdB_ok (c.fact 20)) cfn (ok_painit Fm5 pk) bm5, bm6, kb_rev4 Fm6 (fun _ _ _ _ _ _ _ _ _ _ _ => rfl)⟩, wrg := Mwr, draw := Ldr, fts := Lft, due := Ldu, lik := Lls, ist := Lis, ord := Lor, ppr := Lpp, spt := Lsp, mm := mmin, ma := ma, mz := mz, mI := mI }
  have Lju : Use P w K mg base CX0 10 "_law_judged" ["_law_bag_here", "_law_four"] (spJud K) [] := use0 (ok_judged F__law_judged kit) b__law_judged F__law_judged.kp g__law_judged
  have Lon : Use P w K mg base CX0 11 "_law_once" ["_law_bag_here"] spOnc [] := use0 (ok_once F__law_once kit Lju) b__law_once F__law_once.kp g__law_once
  exact ok_law F_law mr (use0 (ok_bag F__law_bag ml mi) b__law_bag F__law_bag.kp g__law_bag) Lon
end
end Kx
end
section
set_option maxHeartbeats 0
namespace Kx
open PySem PySem.Spec PyProof.Rows L2
theorem cs_tab {h : Heap} (hT : ∀ a ∈ tabA, h.get? a = some { cls := .none, data := .fields #[] }) : ∀ p ∈ csT, h.get? p.2 = some { cls := .none, data := .fields #[] } := fun p hp => by cases hp
theorem cs_none {K : PySem.W.Frag} (c : SaysR K) : ∀ p ∈ csT, K.lookup p.2 = none := fun p hp => by cases hp
theorem cs_code {K : PySem.W.Frag} {h : Heap} (X : K.In h) (c : SaysR K) : ∀ p ∈ csT, PySem.W.CodeHd h p.1 p.2 := fun p hp => by cases hp
theorem tabs_start {H : Hp} (hH : ∀ p ∈ csT, H p.2 = some (.tbl #[])) : LamX.Tabs tbT H := fun p hp => by cases hp
end Kx
open PySem PySem.W PySem.Calls PyProof.Rows
theorem PySem.Challenge.cw_creepclocks_k22_partings_judged_holds : PySem.Challenge.rw_creepclocks_k22_partings_judged.Holds := by
  w_on; o_law
  refine HandSHeadRun.head_imp (r := OpenLaw.row PySem.Challenge.rw_creepclocks_k22_partings_judged) (q := view (OpenLaw.row PySem.Challenge.rw_creepclocks_k22_partings_judged).prog [0, 114]) (H := Kx.hookR) (ob := Kx.ob) (M := 20000) (loose := Kx.names) (d := HandSHeadRun.topDef (OpenLaw.row PySem.Challenge.rw_creepclocks_k22_partings_judged).prog 114) (kwd := []) Kx.ob_eq
    Kx.run (by kernel_rfl) (by kernel_rfl) (by kernel_rfl) (by rfl) (by first | assumption | decide +kernel) (by decide +kernel) ⟨rfl, rfl, rfl, rfl, rfl, by decide +kernel⟩ ?hw ?hc
  case hw => w_witness2
  case hc =>
    refine LamX.walk_ofTsE (l := PySem.Challenge.rw_creepclocks_k22_partings_judged) (n := 63) (k := 12) (x := "_law_script") (CX := fun _ => L2.CX0) rfl (by decide) (by kernel_rfl) ⟨rfl, by decide, by decide⟩ ?F (fun _ _ _ _ _ z => z)
    intro w mg fa h Y G hmg0
    obtain ⟨⟨K, KX, c⟩, hT⟩ := Y
    have hmg : mg ("law" : PySem.Str) = some (.ref fa) := by
      have e : (HandSHeadRun.topDef (OpenLaw.row PySem.Challenge.rw_creepclocks_k22_partings_judged).prog 114).name = ("law" : PySem.Str) := by kernel_rfl
      rw [← e]
      exact hmg0
    obtain ⟨fd, hb, hF⟩ := Kx.facts (P := (PySem.Challenge.rw_creepclocks_k22_partings_judged).prog) (w := w) KX G hmg c
    exact ⟨K, KX, fd, Kx.csT, Kx.spLaw K Kx.tbT, Kx.cs_tab hT, Kx.cs_none c, Kx.cs_code KX c, hb, fun H a ns hl _ hH hS => ⟨a, ns, rfl, hS, Kx.tabs_start hH, fun _ => rfl⟩, hF⟩
end
