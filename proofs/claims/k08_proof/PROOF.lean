import PyProof.Rows.All
import Wide.All
import OpenK.AllK
import Wide.FinOn
import HandS.ForMost
import HandS.ForExc
import HandS.DictComp
import HandS.FStr
import HandS.Small
import HandS.IsInst
import HandS.ExcIs
import HandS.Wide
import HandS.SortInts
import HandS.Conv
import HandS.Zip
import HandS.Flow
import PySem.Challenge.RW_numbergaps_k08_boxes_tight
import HandS.Walk
import KE.KDictZip
import HandS.TupAny
import HandS.Deep
import HandS.Lambda
import HandS.TupMul
import HandS.EndOwn
set_option Elab.async false
set_option linter.all false
set_option maxRecDepth 100000
set_option maxHeartbeats 4000000
namespace Nu
open PySem L2
/-! ### heaps -/
/-- what is tracked outside of F stays -/
def Keep (F : List Addr) (H H' : Hp) : Prop := ∀ c o, H c = some o → c ∉ F → H' c = some o
theorem Keep.refl (F : List Addr) (H : Hp) : Keep F H H := fun _ _ h _ => h
theorem Keep.trans {F : List Addr} {H H1 H2 : Hp} (a : Keep F H H1) (b : Keep F H1 H2) : Keep F H H2 := fun c o h n => b c o (a c o h n) n
theorem Keep.same {F : List Addr} {H H' : Hp} (s : Same H H') : Keep F H H' := fun c o h _ => s c o h
theorem keep_upd {F : List Addr} {H : Hp} {a : Addr} {o : HO} (h : a ∈ F ∨ H a = none) : Keep F H (upd H a o) := fun c u e n => by
  have ne : c ≠ a := fun z => by
    rcases h with h | h
    · exact n (by rw [z]; exact h)
    · rw [z, h] at e; cases e
  rw [upd_ne ne]
  exact e
theorem same_upd {H : Hp} {a : Addr} {o : HO} (h : H a = none) : Same H (upd H a o) := fun c u e => by
  rw [upd_ne (fun z => by rw [z, h] at e; cases e)]
  exact e
end Nu
namespace Nu
open PySem PySem.Spec PyProof.Rows L2
def top (i : Nat) : Stmt := PySem.Challenge.pw_numbergaps_k08_boxes_tight.main.body.getD i (.Pass ⟨0, 0, 0, 0⟩)
abbrev s_narrowed : Stmt := top 15
theorem sc_narrowed : FnScope ["lows", "highs", "total", "above", "below", "low", "high"] ["lows", "highs", "total"] (defScope s_narrowed) := ⟨rfl, rfl, rfl, by decide +kernel, rfl, by decide +kernel, by decide +kernel⟩
abbrev s_check_total : Stmt := top 16
theorem sc_check_total : FnScope ["lows", "highs", "total"] ["lows", "highs", "total"] (defScope s_check_total) := ⟨rfl, rfl, rfl, by decide +kernel, rfl, by decide +kernel, by decide +kernel⟩
abbrev s_tight : Stmt := top 20
theorem sc_tight : FnScope ["box", "lows", "highs", "total"] ["box"] (defScope s_tight) := ⟨rfl, rfl, rfl, by decide +kernel, rfl, by decide +kernel, by decide +kernel⟩
abbrev s_is_settled : Stmt := top 21
theorem sc_is_settled : FnScope ["box", "lows", "highs", "_"] ["box"] (defScope s_is_settled) := ⟨rfl, rfl, rfl, by decide +kernel, rfl, by decide +kernel, by decide +kernel⟩
abbrev s_behind : Stmt := top 22
theorem sc_behind : FnScope ["box", "look", "whole"] ["box", "look"] (defScope s_behind) := ⟨rfl, rfl, rfl, by decide +kernel, rfl, by decide +kernel, by decide +kernel⟩
abbrev s_looks_in : Stmt := top 23
theorem sc_looks_in : FnScope ["box", "lows", "highs", "_", "k", "many"] ["box"] (defScope s_looks_in) := ⟨rfl, rfl, rfl, by decide +kernel, rfl, by decide +kernel, by decide +kernel⟩
abbrev s_parted : Stmt := top 24
theorem sc_parted : FnScope ["box", "look", "lows", "highs", "total", "k", "many", "yes", "no"] ["box", "look"] (defScope s_parted) := ⟨rfl, rfl, rfl, by decide +kernel, rfl, by decide +kernel, by decide +kernel⟩
abbrev s_tightened : Stmt := top 25
theorem sc_tightened : FnScope ["lows", "highs", "total", "spans", "low", "high"] ["lows", "highs", "total"] (defScope s_tightened) := ⟨rfl, rfl, rfl, by decide +kernel, rfl, by decide +kernel, by decide +kernel⟩
abbrev s_check_box : Stmt := top 26
theorem sc_check_box : FnScope ["box", "lows", "highs", "_", "low", "high"] ["box"] (defScope s_check_box) := ⟨rfl, rfl, rfl, by decide +kernel, rfl, by decide +kernel, by decide +kernel⟩
abbrev s_Depths_init : Stmt := inClass (top 28) 0
theorem sc_Depths_init : FnScope ["self"] ["self"] (defScope s_Depths_init) := ⟨rfl, rfl, rfl, by decide +kernel, rfl, by decide +kernel, by decide +kernel⟩
abbrev s_Depths_depth_of : Stmt := inClass (top 28) 1
theorem sc_Depths_depth_of : FnScope ["self", "box", "shape"] ["self", "box"] (defScope s_Depths_depth_of) := ⟨rfl, rfl, rfl, by decide +kernel, rfl, by decide +kernel, by decide +kernel⟩
abbrev s_Depths_best_look : Stmt := inClass (top 28) 2
theorem sc_Depths_best_look : FnScope ["self", "box", "_", "look"] ["self", "box"] (defScope s_Depths_best_look) := ⟨rfl, rfl, rfl, by decide +kernel, rfl, by decide +kernel, by decide +kernel⟩
abbrev s_Depths__worked_out : Stmt := inClass (top 28) 3
theorem sc_Depths__worked_out : FnScope ["self", "box", "rated", "left", "_"] ["self", "box"] (defScope s_Depths__worked_out) := ⟨rfl, rfl, rfl, by decide +kernel, rfl, by decide +kernel, by decide +kernel⟩
abbrev s_Depths__rated_looks : Stmt := inClass (top 28) 4
theorem sc_Depths__rated_looks : FnScope ["self", "box", "look"] ["self", "box"] (defScope s_Depths__rated_looks) := ⟨rfl, rfl, rfl, by decide +kernel, rfl, by decide +kernel, by decide +kernel⟩
abbrev s_Depths__left_behind : Stmt := inClass (top 28) 5
theorem sc_Depths__left_behind : FnScope ["self", "box", "look", "yes", "no"] ["self", "box", "look"] (defScope s_Depths__left_behind) := ⟨rfl, rfl, rfl, by decide +kernel, rfl, by decide +kernel, by decide +kernel⟩
abbrev s_shape : Stmt := top 29
theorem sc_shape : FnScope ["box", "lows", "highs", "total", "widths", "low", "high"] ["box"] (defScope s_shape) := ⟨rfl, rfl, rfl, by decide +kernel, rfl, by decide +kernel, by decide +kernel⟩
abbrev s_least : Stmt := top 31
theorem sc_least : FnScope ["box", "whole", "depths"] ["box"] (defScope s_least) := ⟨rfl, rfl, rfl, by decide +kernel, rfl, by decide +kernel, by decide +kernel⟩
abbrev s_plan : Stmt := top 32
theorem sc_plan : FnScope ["box", "depths", "look", "k", "many", "yes", "no"] ["box", "depths"] (defScope s_plan) := ⟨rfl, rfl, rfl, by decide +kernel, rfl, by decide +kernel, by decide +kernel⟩
abbrev s_paper : Stmt := top 34
theorem sc_paper : FnScope ["box", "whole", "depths", "depth", "claims", "level", "left", "lows", "highs", "_", "claim"] ["box"] (defScope s_paper) := ⟨rfl, rfl, rfl, by decide +kernel, rfl, by decide +kernel, by decide +kernel⟩
abbrev s_shows : Stmt := top 35
theorem sc_shows : FnScope ["box", "depth", "rows", "lows", "highs", "total", "row", "claims"] ["box", "depth", "rows"] (defScope s_shows) := ⟨rfl, rfl, rfl, by decide +kernel, rfl, by decide +kernel, by decide +kernel⟩
abbrev s_claimed_behind : Stmt := top 36
theorem sc_claimed_behind : FnScope ["boxes", "depth", "claims", "depths", "new", "box", "look", "deep", "side"] ["boxes", "depth", "claims", "depths"] (defScope s_claimed_behind) := ⟨rfl, rfl, rfl, by decide +kernel, rfl, by decide +kernel, by decide +kernel⟩
abbrev s_has_worlds : Stmt := top 37
theorem sc_has_worlds : FnScope ["row", "total", "lows", "highs", "_"] ["row", "total"] (defScope s_has_worlds) := ⟨rfl, rfl, rfl, by decide +kernel, rfl, by decide +kernel, by decide +kernel⟩
abbrev s_greatest_claims : Stmt := top 38
theorem sc_greatest_claims : FnScope ["rows", "claims", "lows", "highs", "depth"] ["rows"] (defScope s_greatest_claims) := ⟨rfl, rfl, rfl, by decide +kernel, rfl, by decide +kernel, by decide +kernel⟩
abbrev s_is_claimed : Stmt := top 39
theorem sc_is_claimed : FnScope ["lows", "highs", "depth", "claims"] ["lows", "highs", "depth", "claims"] (defScope s_is_claimed) := ⟨rfl, rfl, rfl, by decide +kernel, rfl, by decide +kernel, by decide +kernel⟩
abbrev s_is_shown : Stmt := top 40
theorem sc_is_shown : FnScope ["row", "total", "claims", "lows", "highs", "depth", "box", "look"] ["row", "total", "claims"] (defScope s_is_shown) := ⟨rfl, rfl, rfl, by decide +kernel, rfl, by decide +kernel, by decide +kernel⟩
abbrev s_leaves : Stmt := top 41
theorem sc_leaves : FnScope ["box", "look", "depth", "claims", "lows", "highs", "_"] ["box", "look", "depth", "claims"] (defScope s_leaves) := ⟨rfl, rfl, rfl, by decide +kernel, rfl, by decide +kernel, by decide +kernel⟩
abbrev s_l_start : Stmt := top 43
theorem sc_l_start : FnScope ["_law_script", "_law_mixed", "_law_cell"] ["_law_script"] (defScope s_l_start) := ⟨rfl, rfl, rfl, by decide +kernel, rfl, by decide +kernel, by decide +kernel⟩
abbrev s_l_drawn : Stmt := top 44
theorem sc_l_drawn : FnScope ["_law_state", "_law_many", "_law_found", "_law_cell"] ["_law_state", "_law_many"] (defScope s_l_drawn) := ⟨rfl, rfl, rfl, by decide +kernel, rfl, by decide +kernel, by decide +kernel⟩
abbrev s_l_same : Stmt := top 45
theorem sc_l_same : FnScope ["_law_found", "_law_due", "_law_k"] ["_law_found", "_law_due"] (defScope s_l_same) := ⟨rfl, rfl, rfl, by decide +kernel, rfl, by decide +kernel, by decide +kernel⟩
abbrev s_l_box : Stmt := top 46
theorem sc_l_box : FnScope ["_law_state", "_law_many", "_law_wide", "_law_lows", "_law_highs", "_law_k", "_law_low", "_law_some", "_law_high", "_law_total"] ["_law_state"] (defScope s_l_box) := ⟨rfl, rfl, rfl, by decide +kernel, rfl, by decide +kernel, by decide +kernel⟩
abbrev s_l_of : Stmt := top 47
theorem sc_l_of : FnScope ["_law_lows", "_law_highs", "_law_total", "_law_found", "_law_low", "_law_high", "_law_world"] ["_law_lows", "_law_highs", "_law_total"] (defScope s_l_of) := ⟨rfl, rfl, rfl, by decide +kernel, rfl, by decide +kernel, by decide +kernel⟩
abbrev s_l_longer : Stmt := top 48
theorem sc_l_longer : FnScope ["_law_found", "_law_low", "_law_high", "_law_longer_here", "_law_world", "_law_many"] ["_law_found", "_law_low", "_law_high"] (defScope s_l_longer) := ⟨rfl, rfl, rfl, by decide +kernel, rfl, by decide +kernel, by decide +kernel⟩
abbrev s_l_tight : Stmt := top 49
theorem sc_l_tight : FnScope ["_law_every", "_law_lows", "_law_world", "_law_k"] ["_law_every"] (defScope s_l_tight) := ⟨rfl, rfl, rfl, by decide +kernel, rfl, by decide +kernel, by decide +kernel⟩
abbrev s_l_kind : Stmt := top 50
theorem sc_l_kind : FnScope ["_law_work", "e", "_law_kinds", "_law_other"] ["_law_work"] (defScope s_l_kind) := ⟨rfl, rfl, rfl, by decide +kernel, rfl, by decide +kernel, by decide +kernel⟩
abbrev s_l_odd : Stmt := top 51
theorem sc_l_odd : FnScope ["_law_state", "_law_lows", "_law_highs", "_law_total", "_law_far", "_law_k", "_law_some"] ["_law_state"] (defScope s_l_odd) := ⟨rfl, rfl, rfl, by decide +kernel, rfl, by decide +kernel, by decide +kernel⟩
abbrev s_l_works : Stmt := top 52
theorem sc_l_works : FnScope ["_law_box_here", "_law_works_here"] ["_law_box_here"] (defScope s_l_works) := ⟨rfl, rfl, rfl, by decide +kernel, rfl, by decide +kernel, by decide +kernel⟩
abbrev s_law : Stmt := top 53
theorem sc_law : FnScope ["_law_script", "_law_state", "_law_turn", "_law_box_here", "_law_total", "_law_every", "_law_work", "_law_odd_here"] ["_law_script"] (defScope s_law) := ⟨rfl, rfl, rfl, by decide +kernel, rfl, by decide +kernel, by decide +kernel⟩
section
variable {X : Cx}
theorem pe_gs {x z : Str} {pos : Pos} (hg : Gl X x) (h : ∃ t, X.mg x = some (.str z t)) (hd : (x == ("__debug__" : Str)) = false := by decide) : PE X (.Name x pos) (tC (.str z)) := by
  obtain ⟨t, e⟩ := h
  exact pe_glob hg e ⟨t, rfl⟩ hd
theorem pe_gi {x : Str} {z : Int} {pos : Pos} (hg : Gl X x) (h : ∃ t, X.mg x = some (.int z t)) (hd : (x == ("__debug__" : Str)) = false := by decide) : PE X (.Name x pos) (tC (.int z)) := by
  obtain ⟨t, e⟩ := h
  exact pe_glob hg e ⟨t, rfl⟩ hd
end
structure Ad where
  GapError : Addr
  NoOffice : Addr
  NoDesk : Addr
  Stopped : Addr
  NoRoom : Addr
  NoCount : Addr
  NoWord : Addr
  Short : Addr
  NoNumber : Addr
  Twice : Addr
  NotThere : Addr
  NoWorld : Addr
  NoBox : Addr
  narrowed : Addr
  check_total : Addr
  tight : Addr
  is_settled : Addr
  behind : Addr
  looks_in : Addr
  parted : Addr
  tightened : Addr
  check_box : Addr
  least : Addr
  paper : Addr
  shows : Addr
  l_start : Addr
  l_drawn : Addr
  l_same : Addr
  l_box : Addr
  l_of : Addr
  l_longer : Addr
  l_tight : Addr
  l_kind : Addr
  l_odd : Addr
  l_works : Addr
  law : Addr
structure Fd where
  narrowed : FuncData
  check_total : FuncData
  tight : FuncData
  is_settled : FuncData
  behind : FuncData
  looks_in : FuncData
  parted : FuncData
  tightened : FuncData
  check_box : FuncData
  least : FuncData
  paper : FuncData
  shows : FuncData
  l_start : FuncData
  l_drawn : FuncData
  l_same : FuncData
  l_box : FuncData
  l_of : FuncData
  l_longer : FuncData
  l_tight : FuncData
  l_kind : FuncData
  l_odd : FuncData
  l_works : FuncData
  law : FuncData
structure XF (K : PySem.W.Frag) (mg : Str → Option Value) (nm : Str) (C : Addr) : Prop where
  x : PySem.W.excIn K C [.type "ValueError", .type "Exception", .type "BaseException", .type "object"] "ValueError.__new__" = true
  g : mg nm = some (.ref C)
  k : PySem.W.keepIn K (.ref C) = true
  b : PySem.W.subIn K (.ref C) (.type "BaseException") = some true
  t : PySem.W.typeIn K (.ref C) = some (.type "type")
structure Txt (K : PySem.W.Frag) (mg : Str → Option Value) (a : Ad) (fd : Fd) : Prop where
  n_len : mg "len" = none
  n_range : mg "range" = none
  n_tuple : mg "tuple" = none
  n_list : mg "list" = none
  n_isinstance : mg "isinstance" = none
  n_int : mg "int" = none
  n_str : mg "str" = none
  n_bool : mg "bool" = none
  n_zip : mg "zip" = none
  n_min : mg "min" = none
  n_max : mg "max" = none
  n_sum : mg "sum" = none
  n_ValueError : mg "ValueError" = none
  g_MOST_PLACES : ∃ t, mg "MOST_PLACES" = some (.int 3 t)
  g_GREATEST_HIGH : ∃ t, mg "GREATEST_HIGH" = some (.int 7 t)
  x_GapError : XF K mg "GapError" a.GapError
  x_NoOffice : XF K mg "NoOffice" a.NoOffice
  x_NoDesk : XF K mg "NoDesk" a.NoDesk
  x_Stopped : XF K mg "Stopped" a.Stopped
  x_NoRoom : XF K mg "NoRoom" a.NoRoom
  x_NoCount : XF K mg "NoCount" a.NoCount
  x_NoWord : XF K mg "NoWord" a.NoWord
  x_Short : XF K mg "Short" a.Short
  x_NoNumber : XF K mg "NoNumber" a.NoNumber
  x_Twice : XF K mg "Twice" a.Twice
  x_NotThere : XF K mg "NotThere" a.NotThere
  x_NoWorld : XF K mg "NoWorld" a.NoWorld
  x_NoBox : XF K mg "NoBox" a.NoBox
  F_narrowed : Fun K "narrowed" "narrowed" s_narrowed a.narrowed fd.narrowed
  b_narrowed : Binds K fd.narrowed ["lows", "highs", "total"] []
  g_narrowed : mg "narrowed" = some (.ref a.narrowed)
  F_check_total : Fun K "_check_total" "_check_total" s_check_total a.check_total fd.check_total
  b_check_total : Binds K fd.check_total ["lows", "highs", "total"] []
  g_check_total : mg "_check_total" = some (.ref a.check_total)
  F_tight : Fun K "tight" "tight" s_tight a.tight fd.tight
  b_tight : Binds K fd.tight ["box"] []
  g_tight : mg "tight" = some (.ref a.tight)
  F_is_settled : Fun K "is_settled" "is_settled" s_is_settled a.is_settled fd.is_settled
  b_is_settled : Binds K fd.is_settled ["box"] []
  g_is_settled : mg "is_settled" = some (.ref a.is_settled)
  F_behind : Fun K "behind" "behind" s_behind a.behind fd.behind
  b_behind : Binds K fd.behind ["box", "look"] []
  g_behind : mg "behind" = some (.ref a.behind)
  F_looks_in : Fun K "looks_in" "looks_in" s_looks_in a.looks_in fd.looks_in
  b_looks_in : Binds K fd.looks_in ["box"] []
  g_looks_in : mg "looks_in" = some (.ref a.looks_in)
  F_parted : Fun K "parted" "parted" s_parted a.parted fd.parted
  b_parted : Binds K fd.parted ["box", "look"] []
  g_parted : mg "parted" = some (.ref a.parted)
  F_tightened : Fun K "_tightened" "_tightened" s_tightened a.tightened fd.tightened
  b_tightened : Binds K fd.tightened ["lows", "highs", "total"] []
  g_tightened : mg "_tightened" = some (.ref a.tightened)
  F_check_box : Fun K "_check_box" "_check_box" s_check_box a.check_box fd.check_box
  b_check_box : Binds K fd.check_box ["box"] []
  g_check_box : mg "_check_box" = some (.ref a.check_box)
  F_least : Fun K "least" "least" s_least a.least fd.least
  b_least : Binds K fd.least ["box"] []
  g_least : mg "least" = some (.ref a.least)
  F_paper : Fun K "paper" "paper" s_paper a.paper fd.paper
  b_paper : Binds K fd.paper ["box"] []
  g_paper : mg "paper" = some (.ref a.paper)
  F_shows : Fun K "shows" "shows" s_shows a.shows fd.shows
  b_shows : Binds K fd.shows ["box", "depth", "rows"] []
  g_shows : mg "shows" = some (.ref a.shows)
  F_l_start : Fun K "_law_start" "_law_start" s_l_start a.l_start fd.l_start
  b_l_start : Binds K fd.l_start ["_law_script"] []
  g_l_start : mg "_law_start" = some (.ref a.l_start)
  F_l_drawn : Fun K "_law_drawn" "_law_drawn" s_l_drawn a.l_drawn fd.l_drawn
  b_l_drawn : Binds K fd.l_drawn ["_law_state", "_law_many"] []
  g_l_drawn : mg "_law_drawn" = some (.ref a.l_drawn)
  F_l_same : Fun K "_law_same" "_law_same" s_l_same a.l_same fd.l_same
  b_l_same : Binds K fd.l_same ["_law_found", "_law_due"] []
  g_l_same : mg "_law_same" = some (.ref a.l_same)
  F_l_box : Fun K "_law_box" "_law_box" s_l_box a.l_box fd.l_box
  b_l_box : Binds K fd.l_box ["_law_state"] []
  g_l_box : mg "_law_box" = some (.ref a.l_box)
  F_l_of : Fun K "_law_of" "_law_of" s_l_of a.l_of fd.l_of
  b_l_of : Binds K fd.l_of ["_law_lows", "_law_highs", "_law_total"] []
  g_l_of : mg "_law_of" = some (.ref a.l_of)
  F_l_longer : Fun K "_law_longer" "_law_longer" s_l_longer a.l_longer fd.l_longer
  b_l_longer : Binds K fd.l_longer ["_law_found", "_law_low", "_law_high"] []
  g_l_longer : mg "_law_longer" = some (.ref a.l_longer)
  F_l_tight : Fun K "_law_tight" "_law_tight" s_l_tight a.l_tight fd.l_tight
  b_l_tight : Binds K fd.l_tight ["_law_every"] []
  g_l_tight : mg "_law_tight" = some (.ref a.l_tight)
  F_l_kind : Fun K "_law_kind" "_law_kind" s_l_kind a.l_kind fd.l_kind
  b_l_kind : Binds K fd.l_kind ["_law_work"] []
  g_l_kind : mg "_law_kind" = some (.ref a.l_kind)
  F_l_odd : Fun K "_law_odd" "_law_odd" s_l_odd a.l_odd fd.l_odd
  b_l_odd : Binds K fd.l_odd ["_law_state"] []
  g_l_odd : mg "_law_odd" = some (.ref a.l_odd)
  F_l_works : Fun K "_law_works" "_law_works" s_l_works a.l_works fd.l_works
  b_l_works : Binds K fd.l_works ["_law_box_here"] []
  g_l_works : mg "_law_works" = some (.ref a.l_works)
  F_law : Fun K "law" "law" s_law a.law fd.law
  b_law : Binds K fd.law ["_law_script"] []
  g_law : mg "law" = some (.ref a.law)
section
variable {P : Program} {w : World} {K : PySem.W.Frag} {mg : Str → Option Value} {base : Heap} {N : List Str} {q : Str} {sc : Scope} {f : Addr} {cdv : Value} {A : Around} {outer : List Env} {s : Shared} {H : Hp} {E : XK}
theorem takesU : Takes (cxOf (L2.CX P w) P w K mg base N q sc f cdv A outer s H E) (fun cls d _ H' => E cls d H') := takes_of rfl rfl rfl rfl
theorem passU : Passes (L2.CX P w) (cxOf (L2.CX P w) P w K mg base N q sc f cdv A outer s H E) E := passes_call takesU (fun _ _ _ _ h => h)
theorem passesU : PassesOwn (model P w) (cxOf (L2.CX P w) P w K mg base N q sc f cdv A outer s H E).A (cxOf (L2.CX P w) P w K mg base N q sc f cdv A outer s H E).env (cxOf (L2.CX P w) P w K mg base N q sc f cdv A outer s H E).xe := passes_of rfl
end
end Nu
namespace Nu
open PySem PySem.Spec PyProof.Rows L2
section
variable {ts : List TE} {acc : Str} {σ : L2.St} {H : Hp} {Q : Str → Hp → Prop}
theorem js_s {z : Str} {b : Nat} (ha : acc.length ≤ b) (hl : z.length ≤ 100) (hb : b ≤ 10000) (k : ∀ acc' : Str, acc'.length ≤ b + 100 → tJs ts acc' σ H Q) : tJs (tC (.str z) :: ts) acc σ H Q := by
  have e : (acc ++ z).length ≤ b + 100 := by
    rw [Str.length_append]
    omega
  exact ⟨z, rfl, Nat.le_trans e (by rw [sizeLine_eq]; omega), k _ e⟩
theorem js_f {i : Nat} {n : Int} {b : Nat} (hs : σ[i]? = some (some (.int n))) (hn : n.natAbs.log2 < 1920) (ha : acc.length ≤ b) (hb : b ≤ 10000) (k : ∀ acc' : Str, acc'.length ≤ b + 1921 → tJs ts acc' σ H Q) : tJs (tFmt (tVar i) :: ts) acc σ H Q := by
  have h1 : (Str.ofString (toString n)).length ≤ 1921 := PyProof.Rows.int_text_len_1921 hn
  have e : (acc ++ Str.ofString (toString n)).length ≤ b + 1921 := by
    rw [Str.length_append]
    omega
  exact ⟨_, hs, .inr ⟨n, rfl, hn, _, rfl, Nat.le_trans e (by rw [sizeLine_eq]; omega), k _ e⟩⟩
end
def IntOk (n : Int) : Prop := n.natAbs.log2 < 1920
theorem map_int_at {ns : List Int} {j : Nat} {x : V} (h : (ns.map V.int)[j]? = some x) : ∃ n, ns[j]? = some n ∧ x = V.int n := by
  rw [List.getElem?_map] at h
  cases e : ns[j]? with
  | none => rw [e] at h; cases h
  | some y => rw [e] at h; exact ⟨y, rfl, (Option.some.inj h).symm⟩
theorem wipe1 (σ : L2.St) (i : Nat) (v : Option V) : wipe ((wipe σ [i]).set i v) [i] = wipe σ [i] := by
  show ((σ.set i none).set i v).set i none = σ.set i none
  rw [List.set_set, List.set_set]
theorem gName_go {i : Nat} {x : V} {σ : L2.St} {H : Hp} {R : L2.St → Hp → Prop} (h : R (σ.set i (some x)) H) : gName i x σ H R := h
theorem seq_go {t u : TS} {D : Ends} {σ : L2.St} {H : Hp} (h : t { D with nx := u D } σ H) : tSeq t u D σ H := h
theorem next_go {D : Ends} {σ : L2.St} {H : Hp} (h : D.nx σ H) : tNext D σ H := h
theorem ifS_two {tc : TT} {tt tu : TS} {D : Ends} {σ : L2.St} {H : Hp} (R1 R0 : Hp → Prop) (hc : ∀ Q : Bool → Hp → Prop, (∀ H1, R1 H1 → Q true H1) → (∀ H1, R0 H1 → Q false H1) → tc σ H Q) (ht : ∀ H1, R1 H1 → tt D σ H1) (hf : ∀ H1, R0 H1 → tu D σ H1) : tIfS tc tt tu D σ H :=
  hc _ (fun H1 h => iteT (ht H1 h)) (fun H1 h => iteF (hf H1 h))
def refsV : V → List Addr
  | .ref r => [r]
  | _ => []
theorem mem_refs {v : V} {c : Addr} (h : c ∈ refsV v) : v = .ref c := by
  cases v with
  | ref r => rw [List.mem_singleton.mp h]
  | _ => cases h
theorem Keep.mono {F G : List Addr} {H H' : Hp} (k : Keep F H H') (h : ∀ c ∈ F, c ∈ G) : Keep G H H' := fun c u e n => k c u e fun z => n (h c z)
theorem ifS_join {tc : TT} {tt : TS} {D : Ends} {σ : L2.St} {H : Hp} (P : L2.St → Hp → Prop) (h : ∀ nx : L2.St → Hp → Prop, (∀ σ' H', P σ' H' → nx σ' H') → tIfS tc tt tNext { D with nx := nx } σ H) (hn : ∀ σ' H', P σ' H' → D.nx σ' H') : tIfS tc tt tNext D σ H := h D.nx hn
theorem log_nat {d : Nat} (h : d ≤ 1000) : (d : Int).natAbs.log2 < 1920 := by
  have e : (d : Int).natAbs = d := Int.natAbs_natCast d
  rw [e]
  have h1 : d.log2 < 10 := by
    by_cases c : d = 0
    · subst c
      decide
    · exact (Nat.log2_lt c).mpr (by omega)
  omega
theorem take_snoc {α : Type} {l : List α} {i : Nat} {x : α} (h : l[i]? = some x) : l.take (i + 1) = l.take i ++ [x] := by
  rw [List.take_add_one, h]
  rfl
theorem Keep.free {F : List Addr} {H H' : Hp} (k : Keep F H H') {t : Addr} (h : H' t = none) (hn : t ∉ F) : H t = none := by
  cases e : H t with
  | none => rfl
  | some u =>
    have := k t u e hn
    rw [h] at this
    cases this
theorem ixN_nat {n i : Nat} (h : i < n) : ixN n (i : Int) = some i := by
  unfold ixN
  rw [if_pos (by omega), if_pos (by omega)]
  rfl
def dV : V → PyData
  | .bl b => .bool b
  | .int i => .int i
  | .str x => .str x
  | _ => .none
def flS : V → Bool
  | .non => true
  | .bl _ => true
  | .int _ => true
  | .str x => PyData.canLay0 (.str x)
  | _ => false
theorem dp_flat {K : PySem.W.Frag} {H : Hp} {x : V} (h : flS x = true) : Dp K H x (dV x) := by
  cases x with
  | non => exact .non
  | bl b => exact .bl b
  | int i => exact .int i
  | str z => exact .str z
  | byt _ => cases h
  | flt _ => cases h
  | ref _ => cases h
  | ty _ => cases h
theorem dp_flats {K : PySem.W.Frag} {H : Hp} : ∀ (xs : List V), (∀ x ∈ xs, flS x = true) → DpAll K H xs (xs.map dV)
  | [], _ => .nil
  | x :: r, h => .cons (dp_flat (h x List.mem_cons_self)) (dp_flats r fun y hy => h y (List.mem_cons_of_mem _ hy))
theorem flat_lay : ∀ (xs : List V), (∀ x ∈ xs, flS x = true) → PyData.canLayAll0 (xs.map dV) = true
  | [], _ => by simp [PyData.canLayAll0]
  | x :: r, h => by
    have h1 := flat_lay r fun y hy => h y (List.mem_cons_of_mem _ hy)
    have h2 := h x List.mem_cons_self
    rw [List.map_cons]
    unfold PyData.canLayAll0
    rw [h1, Bool.and_true]
    cases x <;> first | rfl | exact h2 | cases h2 | (simp only [dV, PyData.canLay0])
theorem flat_depth : ∀ (xs : List V), PyData.depthAll (xs.map dV) = 0
  | [] => by simp [PyData.depthAll]
  | x :: r => by
    have h1 := flat_depth r
    have h2 : PyData.depth (dV x) = 0 := by cases x <;> simp [dV, PyData.depth]
    rw [List.map_cons]
    unfold PyData.depthAll
    rw [h1, h2]
    rfl
theorem flat_shaped {xs : List V} (h : ∀ x ∈ xs, flS x = true) : SeqAt.shaped (.list (xs.map dV)) = true := by
  have e : PyData.depth (.list (xs.map dV)) = 1 := by
    simp only [PyData.depth, flat_depth]
  have e2 : PyData.canLay0 (.list (xs.map dV)) = true := by
    simp only [PyData.canLay0]
    exact flat_lay xs h
  unfold SeqAt.shaped
  rw [e, e2]
  rfl
theorem eq_nil {K : PySem.W.Frag} {H : Hp} {p e : Addr} {xs : List V} {Q : VK} (hp : H p = some (.lst xs)) (he : H e = some (.lst [])) (hf : ∀ x ∈ xs, flS x = true) (q : Q (.bl xs.isEmpty) H) : rEqD K (.ref p) (.ref e) H Q := by
  refine ⟨.list (xs.map dV), .list [], .lst (SqL.of hp) (dp_flats xs hf), .lst (SqL.of he) .nil, flat_shaped hf, by decide, ?_⟩
  cases xs with
  | nil => exact q
  | cons x r => exact q
theorem ne_nil {K : PySem.W.Frag} {H : Hp} {p e : Addr} {xs : List V} {Q : VK} (hp : H p = some (.lst xs)) (he : H e = some (.lst [])) (hf : ∀ x ∈ xs, flS x = true) (q : Q (.bl (!xs.isEmpty)) H) : rNeD K (.ref p) (.ref e) H Q := by
  refine ⟨.list (xs.map dV), .list [], .lst (SqL.of hp) (dp_flats xs hf), .lst (SqL.of he) .nil, flat_shaped hf, by decide, ?_⟩
  cases xs with
  | nil => exact q
  | cons x r => exact q
theorem at_two {v : Int} (h0 : 0 ≤ v) (h1 : v < 2) (a b : V) : atI [a, b] v = some (if v = 0 then a else b) := by
  have : v = 0 ∨ v = 1 := by omega
  rcases this with rfl | rfl
  · rfl
  · rfl
theorem at_three {v : Int} (h0 : 0 ≤ v) (h1 : v < 3) (a b c : V) : atI [a, b, c] v = some (if v = 0 then a else if v = 1 then b else c) := by
  have : v = 0 ∨ v = 1 ∨ v = 2 := by omega
  rcases this with rfl | rfl | rfl
  · rfl
  · rfl
  · rfl
theorem at_four {v : Int} (h0 : 0 ≤ v) (h1 : v < 4) (a b c d : Str) : ∃ x, atI [V.str a, V.str b, V.str c, V.str d] v = some (.str x) ∧ (x = a ∨ x = b ∨ x = c ∨ x = d) := by
  have : v = 0 ∨ v = 1 ∨ v = 2 ∨ v = 3 := by omega
  rcases this with rfl | rfl | rfl | rfl
  · exact ⟨a, rfl, .inl rfl⟩
  · exact ⟨b, rfl, .inr (.inl rfl)⟩
  · exact ⟨c, rfl, .inr (.inr (.inl rfl))⟩
  · exact ⟨d, rfl, .inr (.inr (.inr rfl))⟩
theorem log59 {x : Int} (h0 : 0 - 10 ^ 59 ≤ x) (h1 : x < 10 ^ 59 + 1000) : x.natAbs.log2 < 1920 := by
  by_cases c : x.natAbs = 0
  · rw [c]
    decide
  · have h : x.natAbs < 2 ^ 1920 := by
      have e1 : (10 : Nat) ^ 59 + 1000 < 2 ^ 1920 := by decide +kernel
      have e2 : ((10 : Nat) ^ 59 : Int) = 10 ^ 59 := by norm_cast
      omega
    exact (Nat.log2_lt c).mpr h
theorem at_three_i {v : Int} (h0 : 0 ≤ v) (h1 : v < 3) : ∃ x : Int, atI [V.int 1, V.int 200, V.int ((10 : Int) ^ (59 : Int).toNat)] v = some (.int x) ∧ 1 ≤ x ∧ x ≤ 10 ^ 59 := by
  have : v = 0 ∨ v = 1 ∨ v = 2 := by omega
  rcases this with rfl | rfl | rfl
  · exact ⟨1, rfl, by decide, by decide +kernel⟩
  · exact ⟨200, rfl, by decide, by decide +kernel⟩
  · exact ⟨10 ^ 59, rfl, by decide +kernel, Int.le_refl _⟩
theorem intOk59 {x : Int} (h0 : 0 - 1 - 10 ^ 59 ≤ x) (h1 : x < 10 ^ 59 + 2000) : IntOk x := by
  unfold IntOk
  by_cases c : x.natAbs = 0
  · rw [c]
    decide
  · have h : x.natAbs < 2 ^ 1920 := by
      have e1 : (10 : Nat) ^ 59 + 2000 < 2 ^ 1920 := by decide +kernel
      have e2 : ((10 : Nat) ^ 59 : Int) = 10 ^ 59 := by norm_cast
      omega
    exact (Nat.log2_lt c).mpr h
theorem intOkS {x : Int} (h0 : 0 ≤ x) (h1 : x ≤ 1000) : IntOk x := by
  obtain ⟨n, rfl⟩ := Int.eq_ofNat_of_zero_le h0
  exact log_nat (by omega)
theorem deqT {z y : Str} (h : z = y) : decide (V.str z = V.str y) = true := decide_eq_true (by rw [h])
theorem deqF {z y : Str} (h : ¬ z = y) : decide (V.str z = V.str y) = false := decide_eq_false fun q => h (by injection q)
theorem dneT {z y : Str} (h : ¬ z = y) : (!decide (V.str z = V.str y)) = true := by rw [deqF h]; rfl
theorem dneF {z y : Str} (h : z = y) : (!decide (V.str z = V.str y)) = false := by rw [deqT h]; rfl
theorem one_le : ∀ v : V, [v].length ≤ sizeLine := fun v => by
  rw [sizeLine_eq]
  exact (by decide : 1 ≤ 16777216)
theorem deqI {x y : Int} (h : x = y) : decide (V.int x = V.int y) = true := decide_eq_true (by rw [h])
theorem dneI {x y : Int} (h : ¬ x = y) : decide (V.int x = V.int y) = false := decide_eq_false fun z => h (by injection z)
theorem ifE_join {t : TT} {ta tb : TE} {σ : L2.St} {H : Hp} {Q : VK} (P : V → Hp → Prop) (h : ∀ Q' : VK, (∀ v H', P v H' → Q' v H') → tIf t ta tb σ H Q') (hn : ∀ v H', P v H' → Q v H') : tIf t ta tb σ H Q := h Q hn
def LI (f : Nat → Int) (n : Nat) : List Int := (List.range n).map f
theorem LI_len (f : Nat → Int) (n : Nat) : (LI f n).length = n := by
  unfold LI
  rw [List.length_map, List.length_range]
theorem LI_at (f : Nat → Int) {n i : Nat} (h : i < n) : (LI f n)[i]? = some (f i) := by
  unfold LI
  rw [List.getElem?_map, List.getElem?_range h]
  rfl
theorem LI_succ (f : Nat → Int) (n : Nat) : LI f (n + 1) = LI f n ++ [f n] := by
  unfold LI
  rw [List.range_succ, List.map_append]
  rfl
theorem LI_congr {f g : Nat → Int} {n : Nat} (h : ∀ i, i < n → f i = g i) : LI f n = LI g n := by
  unfold LI
  exact List.map_congr_left fun i hi => h i (List.mem_range.mp hi)
theorem LI_take (f : Nat → Int) {n j : Nat} (h : j ≤ n) : (LI f n).take j = LI f j := by
  unfold LI
  rw [← List.map_take, List.take_range, Nat.min_eq_left h]
theorem mem_LI {f : Nat → Int} {n : Nat} {x : Int} : x ∈ LI f n ↔ ∃ i, i < n ∧ f i = x := by
  unfold LI
  rw [List.mem_map]
  exact ⟨fun ⟨i, h, e⟩ => ⟨i, List.mem_range.mp h, e⟩, fun ⟨i, h, e⟩ => ⟨i, List.mem_range.mpr h, e⟩⟩
def sumF (f : Nat → Int) : Nat → Int
  | 0 => 0
  | n + 1 => sumF f n + f n
theorem sum_snoc : ∀ (l : List Int) (x : Int), (l ++ [x]).sum = l.sum + x
  | [], x => by simp
  | y :: r, x => by
    rw [List.cons_append, List.sum_cons, sum_snoc r x, List.sum_cons]
    omega
theorem LI_sum (f : Nat → Int) : ∀ n : Nat, (LI f n).sum = sumF f n
  | 0 => rfl
  | n + 1 => by
    rw [LI_succ, sum_snoc, LI_sum f n]
    rfl
theorem sumF_congr {f g : Nat → Int} : ∀ {n : Nat}, (∀ i, i < n → f i = g i) → sumF f n = sumF g n
  | 0, _ => rfl
  | n + 1, h => by
    show sumF f n + f n = sumF g n + g n
    rw [sumF_congr fun i hi => h i (by omega), h n (by omega)]
theorem LI_set (f : Nat → Int) {n k : Nat} (v : Int) : (LI f n).set k v = LI (fun i => if i = k then v else f i) n := by
  refine List.ext_getElem? fun i => ?_
  by_cases hi : i < n
  · rw [LI_at _ hi]
    by_cases c : k = i
    · subst c
      rw [List.getElem?_set_self (by rw [LI_len]; exact hi), if_pos rfl]
    · rw [List.getElem?_set_ne c, LI_at _ hi, if_neg (fun z => c z.symm)]
  · rw [List.getElem?_eq_none (by rw [List.length_set, LI_len]; omega), List.getElem?_eq_none (by rw [LI_len]; omega)]
theorem sumF_set (f : Nat → Int) (k : Nat) (v : Int) : ∀ n : Nat, sumF (fun i => if i = k then v else f i) n = sumF f n + (if k < n then v - f k else 0)
  | 0 => by
    rw [if_neg (Nat.not_lt_zero _)]
    rfl
  | n + 1 => by
    show sumF _ n + (if n = k then v else f n) = sumF f n + f n + _
    rw [sumF_set f k v n]
    by_cases c : n = k
    · subst c
      rw [if_pos rfl, if_neg (Nat.lt_irrefl _), if_pos (Nat.lt_succ_self _)]
      omega
    · rw [if_neg c]
      by_cases c2 : k < n
      · rw [if_pos c2, if_pos (by omega)]
        omega
      · rw [if_neg c2, if_neg (by omega)]
        omega
theorem map_LI {α : Type} (d : α) (l : List α) (g : α → Int) : l.map g = LI (fun m => g (l.getD m d)) l.length := by
  refine List.ext_getElem? fun i => ?_
  by_cases hi : i < l.length
  · rw [LI_at _ hi, List.getElem?_map, List.getElem?_eq_getElem hi, List.getD_eq_getElem?_getD, List.getElem?_eq_getElem hi]
    rfl
  · rw [List.getElem?_eq_none (by rw [List.length_map]; omega), List.getElem?_eq_none (by rw [LI_len]; omega)]
def cap (lw hg : Nat → Int) (k : Nat) : Nat → Int
  | 0 => 0
  | j + 1 => cap lw hg k j + (if j = k then 0 else hg j - lw j)
theorem cap_eq (lw hg : Nat → Int) (k : Nat) : ∀ n : Nat, cap lw hg k n = sumF hg n - sumF lw n - (if k < n then hg k - lw k else 0)
  | 0 => by
    rw [if_neg (Nat.not_lt_zero _)]
    rfl
  | n + 1 => by
    show cap lw hg k n + (if n = k then 0 else hg n - lw n) = sumF hg n + hg n - (sumF lw n + lw n) - _
    rw [cap_eq lw hg k n]
    by_cases c : n = k
    · subst c
      rw [if_pos rfl, if_neg (Nat.lt_irrefl _), if_pos (Nat.lt_succ_self _)]
      omega
    · rw [if_neg c]
      by_cases c2 : k < n
      · rw [if_pos c2, if_pos (by omega)]
        omega
      · rw [if_neg c2, if_neg (by omega)]
        omega
theorem cap_nn {lw hg : Nat → Int} {k : Nat} : ∀ {n : Nat}, (∀ i, i < n → lw i ≤ hg i) → 0 ≤ cap lw hg k n
  | 0, _ => Int.le_refl _
  | n + 1, h => by
    have h1 := cap_nn (lw := lw) (hg := hg) (k := k) (n := n) fun i hi => h i (by omega)
    have h2 := h n (by omega)
    show 0 ≤ cap lw hg k n + (if n = k then 0 else hg n - lw n)
    by_cases c : n = k
    · rw [if_pos c]
      omega
    · rw [if_neg c]
      omega
theorem sumF_le {lw hg : Nat → Int} : ∀ {n : Nat}, (∀ i, i < n → lw i ≤ hg i) → sumF lw n ≤ sumF hg n
  | 0, _ => Int.le_refl _
  | n + 1, h => by
    have h1 := sumF_le (lw := lw) (hg := hg) (n := n) fun i hi => h i (by omega)
    have h2 := h n (by omega)
    show sumF lw n + lw n ≤ sumF hg n + hg n
    omega
theorem sumF_bound {f : Nat → Int} {b : Int} : ∀ {n : Nat}, (∀ i, i < n → 0 ≤ f i ∧ f i ≤ b) → 0 ≤ sumF f n ∧ sumF f n ≤ (n : Int) * b
  | 0, _ => by
    constructor
    · exact Int.le_refl _
    · show (0 : Int) ≤ ((0 : Nat) : Int) * b
      simp
  | n + 1, h => by
    obtain ⟨h1, h2⟩ := sumF_bound (f := f) (b := b) (n := n) fun i hi => h i (by omega)
    have h3 := h n (by omega)
    have e : ((n + 1 : Nat) : Int) * b = (n : Int) * b + b := by
      rw [Int.natCast_succ, Int.add_mul, Int.one_mul]
    rw [e]
    show 0 ≤ sumF f n + f n ∧ sumF f n + f n ≤ (n : Int) * b + b
    omega
def bLo (SH : Int) (c : Option Int) (low high : Int) : Int := match c with
  | none => low
  | some c => if high - (SH - c) > low then high - (SH - c) else low
def bHi (SL : Int) (c : Option Int) (low high : Int) : Int := match c with
  | none => high
  | some c => if low + (c - SL) < high then low + (c - SL) else high
def badC (SL SH : Int) (c : Option Int) : Prop := ∃ x, c = some x ∧ (x < SL ∨ x > SH)
def cV : Option Int → V
  | some d => .int d
  | none => .non
structure TA (H : Hp) (ts : List Addr) (n : Nat) (f : Nat → List V) : Prop where
  len : ts.length = n
  at_ : ∀ (i : Nat) (t : Addr), ts[i]? = some t → H t = some (.tup (f i))
theorem TA.same {H H' : Hp} {ts : List Addr} {n : Nat} {f : Nat → List V} (h : TA H ts n f) (s : Same H H') : TA H' ts n f := ⟨h.len, fun i t e => s _ _ (h.at_ i t e)⟩
theorem TA.nil (H : Hp) (f : Nat → List V) : TA H [] 0 f := ⟨rfl, fun i t e => by simp at e⟩
theorem TA.snoc {H : Hp} {ts : List Addr} {n : Nat} {f : Nat → List V} {t : Addr} (h : TA H ts n f) (e : H t = some (.tup (f n))) : TA H (ts ++ [t]) (n + 1) f := by
  refine ⟨by rw [List.length_append, h.len]; rfl, fun i t' a => ?_⟩
  by_cases c : i < ts.length
  · rw [List.getElem?_append_left c] at a
    exact h.at_ i t' a
  · rw [List.getElem?_append_right (by omega)] at a
    have hi := (List.getElem?_eq_some_iff.mp a).1
    simp only [List.length_cons, List.length_nil] at hi
    have hi : i = n := by
      have := h.len
      omega
    subst hi
    rw [h.len, Nat.sub_self] at a
    cases a
    exact e
theorem TA.get {H : Hp} {ts : List Addr} {n : Nat} {f : Nat → List V} (h : TA H ts n f) {i : Nat} (hi : i < n) : ∃ t, ts[i]? = some t ∧ H t = some (.tup (f i)) := by
  have : i < ts.length := by rw [h.len]; exact hi
  exact ⟨_, List.getElem?_eq_getElem this, h.at_ i _ (List.getElem?_eq_getElem this)⟩
theorem TA.congr {H : Hp} {ts : List Addr} {n : Nat} {f g : Nat → List V} (h : TA H ts n f) (e : ∀ i, i < n → f i = g i) : TA H ts n g := ⟨h.len, fun i t a => by
  have hi := (List.getElem?_eq_some_iff.mp a).1
  rw [h.len] at hi
  rw [← e i hi]
  exact h.at_ i t a⟩
theorem TA.put {H : Hp} {ts : List Addr} {n : Nat} {f : Nat → List V} {D : Addr} {xs : List V} {u : HO} (h : TA H ts n f) (e : H D = some (.lst xs) ∨ H D = none) : TA (upd H D u) ts n f := ⟨h.len, fun i t a => by
  have q := h.at_ i t a
  rw [upd_ne (fun z => by rw [z] at q; rcases e with e | e <;> rw [e] at q <;> cases q)]
  exact q⟩
theorem lenSeq_K {X : Cx} {K : PySem.W.Frag} (h : X.K = K) : CallR X (.builtin "len") (fun xs H Q => ∃ p ys, xs = [.ref p] ∧ (SqL K H p ys ∨ SqT K H p ys) ∧ Q (.int ys.length) H) := h ▸ call_len_seq
theorem pg_tupK {X : Cx} {K : PySem.W.Frag} {es : List Expr} {k : Nat} {t : TGs} {n : Nat} {pos : Pos} (hK : X.K = K) (hc : X.calm = true) (h : PGs X es t) (hn : (assignEach es X.env).length = n := by rfl) (hst : (assignEach es X.env).findIdx? (·.1) = none := by rfl) : PG X (.Tuple es k pos) (gTup K n t) := hK ▸ pg_tup hc h hn hst
def cOk (c : Option Int) : Prop := ∀ x, c = some x → IntOk x
def rng (a b : Int) : List Int := LI (fun i => a + (i : Int)) (b + 1 - a).toNat
theorem mem_rng {a b x : Int} : x ∈ rng a b ↔ a ≤ x ∧ x ≤ b := by
  unfold rng
  rw [mem_LI]
  constructor
  · rintro ⟨i, h, e⟩
    have e : a + (i : Int) = x := e
    omega
  · rintro ⟨h1, h2⟩
    exact ⟨(x - a).toNat, by omega, by show a + (((x - a).toNat : Nat) : Int) = x; omega⟩
theorem rng_len (a b : Int) : (rng a b).length = (b + 1 - a).toNat := LI_len _ _
theorem LI_cons (f : Nat → Int) (n : Nat) : LI f (n + 1) = f 0 :: LI (fun i => f (i + 1)) n := by
  refine List.ext_getElem? fun i => ?_
  cases i with
  | zero => rw [LI_at _ (by omega)]; rfl
  | succ i =>
    rw [List.getElem?_cons_succ]
    by_cases h : i < n
    · rw [LI_at _ (by omega), LI_at _ h]
    · rw [List.getElem?_eq_none (by rw [LI_len]; omega), List.getElem?_eq_none (by rw [LI_len]; omega)]
theorem rng_cons {a b : Int} (h : a ≤ b) : rng a b = a :: rng (a + 1) b := by
  unfold rng
  rw [show (b + 1 - a).toNat = (b + 1 - (a + 1)).toNat + 1 by omega, LI_cons]
  congr 1
  · show a + ((0 : Nat) : Int) = a
    omega
  · exact LI_congr fun i _ => by show a + ((i + 1 : Nat) : Int) = a + 1 + (i : Int); omega
theorem rng_nil {a b : Int} (h : b < a) : rng a b = [] := by
  unfold rng
  rw [show (b + 1 - a).toNat = 0 by omega]
  rfl
def mx (x y : Int) : Int := if y > x then y else x
def mn (x y : Int) : Int := if y < x then y else x
theorem mx_le {x y z : Int} : mx x y ≤ z ↔ x ≤ z ∧ y ≤ z := by
  unfold mx
  by_cases h : y > x
  · rw [if_pos h]; omega
  · rw [if_neg h]; omega
theorem le_mn {x y z : Int} : z ≤ mn x y ↔ z ≤ x ∧ z ≤ y := by
  unfold mn
  by_cases h : y < x
  · rw [if_pos h]; omega
  · rw [if_neg h]; omega
structure TL (H : Hp) (ts : List Addr) (ws : List (List Int)) : Prop where
  len : ts.length = ws.length
  at_ : ∀ (i : Nat) (t : Addr) (x : List Int), ts[i]? = some t → ws[i]? = some x → H t = some (.tup (x.map V.int))
theorem TL.same {H H' : Hp} {ts : List Addr} {ws : List (List Int)} (h : TL H ts ws) (s : Same H H') : TL H' ts ws := ⟨h.len, fun i t x e f => s _ _ (h.at_ i t x e f)⟩
theorem TL.nil (H : Hp) : TL H [] [] := ⟨rfl, fun i t x e => by simp at e⟩
theorem TL.snoc {H : Hp} {ts : List Addr} {ws : List (List Int)} {t : Addr} {x : List Int} (h : TL H ts ws) (e : H t = some (.tup (x.map V.int))) : TL H (ts ++ [t]) (ws ++ [x]) := by
  refine ⟨by rw [List.length_append, List.length_append, h.len]; rfl, fun i t' x' a b => ?_⟩
  by_cases c : i < ts.length
  · rw [List.getElem?_append_left c] at a
    rw [List.getElem?_append_left (by rw [← h.len]; exact c)] at b
    exact h.at_ i t' x' a b
  · rw [List.getElem?_append_right (by omega)] at a
    rw [List.getElem?_append_right (by rw [← h.len]; omega)] at b
    have hi := (List.getElem?_eq_some_iff.mp a).1
    simp only [List.length_cons, List.length_nil] at hi
    have hi : i = ts.length := by omega
    rw [← h.len] at b
    rw [hi, Nat.sub_self] at a b
    cases a
    cases b
    exact e
theorem TL.put {H : Hp} {ts : List Addr} {ws : List (List Int)} {D : Addr} {u : HO} (h : TL H ts ws) (e : (∃ xs, H D = some (.lst xs)) ∨ H D = none) : TL (upd H D u) ts ws := ⟨h.len, fun i t x a b => by
  have q := h.at_ i t x a b
  rw [upd_ne (fun z => by
    rw [z] at q
    rcases e with ⟨xs, e⟩ | e <;> rw [e] at q <;> cases q)]
  exact q⟩
theorem TL.get {H : Hp} {ts : List Addr} {ws : List (List Int)} (h : TL H ts ws) {i : Nat} {t : Addr} (e : ts[i]? = some t) : ∃ x, ws[i]? = some x ∧ H t = some (.tup (x.map V.int)) := by
  have hi := (List.getElem?_eq_some_iff.mp e).1
  rw [h.len] at hi
  exact ⟨_, List.getElem?_eq_getElem hi, h.at_ i t _ e (List.getElem?_eq_getElem hi)⟩
theorem TL.get2 {H : Hp} {ts : List Addr} {ws : List (List Int)} (h : TL H ts ws) {i : Nat} {x : List Int} (e : ws[i]? = some x) : ∃ t, ts[i]? = some t ∧ H t = some (.tup (x.map V.int)) := by
  have hi := (List.getElem?_eq_some_iff.mp e).1
  rw [← h.len] at hi
  exact ⟨_, List.getElem?_eq_getElem hi, h.at_ i _ x (List.getElem?_eq_getElem hi) e⟩
def rSumT (K : PySem.W.Frag) : List V → Hp → VK → Prop := fun vs H Q => ∃ (a : Addr) (ns : List Int), vs = [V.ref a] ∧ SqT K H a (ns.map V.int) ∧ Q (.int ns.sum) H
theorem cr_sumT {X : Cx} (hc : X.calm = true) : CallR X (.builtin "sum") (rSumT X.K) := by
  intro pins s σ H vs us Q I r h
  obtain ⟨a, ns, rfl, hs, q⟩ := h
  obtain ⟨its, rv, hl, _⟩ := I.tuple hs
  rw [Vals.ref1 r]
  have hi := rv.ints
  obtain ⟨xs, e⟩ := hi.allInts.items
  have hn : numsOf (intItems xs).toList = ns := by rw [← e]; exact hi.numsOf
  rw [nums_intItems] at hn
  rw [e] at hl
  refine PySem.W.ktm_sumG (I.ok.hd hc) (show s.heap.IsTuple a (intItems xs) from hl) fun h' tk t' hk => ⟨.int _, H, I.kept hk, ⟨_, rfl⟩, ?_⟩
  rw [preSum_eq, List.take_of_length_le (by simp), hn]
  exact q
theorem cr_sumT_K {X : Cx} {K : PySem.W.Frag} (hK : X.K = K) (hc : X.calm = true) : CallR X (.builtin "sum") (rSumT K) := hK ▸ cr_sumT hc
theorem pi_listK {X : Cx} {K : PySem.W.Frag} {tg l : Expr} {tl : TE} (hK : X.K = K) (hl : PE X l tl) : PI X tg l (iList K tl) := hK ▸ pi_list hl
theorem out_it {J : It} {n : Nat} {G : Hp → Prop} {Y : Nat → Hp → V → Hp → Prop} (w : Walk J n G Y) {B : V → Hp → (Hp → Prop) → Prop} {H0 : Hp} {Qd : Hp → Prop} (Pv : Nat → Hp → Prop) (h0 : Pv 0 H0) (hG : ∀ i H, i ≤ n → Pv i H → G H)
    (hs : ∀ i x H H', i < n → Pv i H → Y i H x H' → B x H' (Pv (i + 1))) (hd : ∀ H, Pv n H → Qd H) :
    ∃ W : Nat → Nat → Hp → Prop, (∃ m, W 0 m H0) ∧ ∀ i m H, W i m H →
      (J.stop i H ∧ Qd H) ∨ (J.go i H ∧ ∃ Nx : Hp → Prop, (∀ H', Nx H' → ∃ m', m' < m ∧ W (i + 1) m' H') ∧ ∀ x H', J.yld i H x H' → B x H' Nx) := by
  refine ⟨fun i m H => m = n - i ∧ i ≤ n ∧ Pv i H, ⟨n, by simp, Nat.zero_le _, h0⟩, ?_⟩
  rintro i m H ⟨rfl, hi, p⟩
  have q := hG i H hi p
  by_cases hlt : i < n
  · exact .inr ⟨w.goes i H hlt q, Pv (i + 1), fun H' p' => ⟨n - (i + 1), by omega, rfl, hlt, p'⟩, fun x H' y => hs i x H H' hlt p (w.yields i H x H' hlt q y)⟩
  · have e : i = n := by omega
    subst e
    exact .inl ⟨w.stops H q, hd H p⟩
theorem rgV_rng (a b : Int) : rgV a (b + 1) = (rng a b).map V.int := by
  unfold rgV rng LI
  rw [List.map_map]
  rfl
theorem sum_app : ∀ (l m : List Int), (l ++ m).sum = l.sum + m.sum
  | [], m => by simp
  | x :: r, m => by
    rw [List.cons_append, List.sum_cons, List.sum_cons, sum_app r m]
    omega
theorem drop_sum (f : Nat → Int) {n j : Nat} (h : j ≤ n) : ((LI f n).drop j).sum = sumF f n - sumF f j := by
  have e := sum_app ((LI f n).take j) ((LI f n).drop j)
  rw [List.take_append_drop, LI_take f h, LI_sum, LI_sum] at e
  omega
theorem log_abs {x : Int} {d : Nat} (e : x.natAbs = d) (h : d ≤ 4000) : x.natAbs.log2 < 1920 := by
  rw [e]
  have h1 : d.log2 < 12 := by
    by_cases c : d = 0
    · subst c
      decide
    · exact (Nat.log2_lt c).mpr (by omega)
  omega
theorem cOk_of {x : Int} (h : x.natAbs ≤ 4000) : cOk (some x) := fun y e => by
  cases e
  exact log_abs rfl h
theorem cOk_none : cOk none := fun y e => by cases e
theorem cOk_int {x : Int} (h : IntOk x) : cOk (some x) := fun y e => by
  cases e
  exact h
theorem ifS_test {tc : TT} {tt te : TS} {D : Ends} {σ : L2.St} {H : Hp} (b : Bool) (h : ∀ Q : Bool → Hp → Prop, (∀ H', Same H H' → Q b H') → tc σ H Q) (hn : ∀ H', Same H H' → if b = true then tt D σ H' else te D σ H') : tIfS tc tt te D σ H :=
  h (fun b H1 => if b = true then tt D σ H1 else te D σ H1) hn
def dw (x : List Int) : PyData := .tuple ((x.map V.int).map dV)
theorem dp_worlds {K : PySem.W.Frag} {H : Hp} : ∀ (ts : List Addr) (ws : List (List Int)), TL H ts ws → DpAll K H (ts.map V.ref) (ws.map dw)
  | [], [], _ => .nil
  | [], x :: r, h => by cases h.len
  | t :: r, [], h => by cases h.len
  | t :: r, x :: l, h => .cons (.tup (SqT.of (h.at_ 0 t x rfl rfl)) (dp_flats _ fun y hy => by
      obtain ⟨z, _, rfl⟩ := List.mem_map.mp hy
      rfl)) (dp_worlds r l ⟨Nat.succ.inj h.len, fun i t' x' e f => h.at_ (i + 1) t' x' e f⟩)
theorem ints_fl (x : List Int) : ∀ y ∈ x.map V.int, flS y = true := fun y hy => by
  obtain ⟨z, _, rfl⟩ := List.mem_map.mp hy
  rfl
theorem lay_worlds : ∀ ws : List (List Int), PyData.canLayAll0 (ws.map dw) = true
  | [] => by simp [PyData.canLayAll0]
  | x :: r => by
    have h1 := lay_worlds r
    rw [List.map_cons]
    unfold PyData.canLayAll0
    rw [h1, Bool.and_true]
    unfold dw
    simp only [PyData.canLay0]
    exact flat_lay _ (ints_fl x)
theorem depth_worlds : ∀ ws : List (List Int), PyData.depthAll (ws.map dw) ≤ 1
  | [] => by simp [PyData.depthAll]
  | x :: r => by
    have h1 := depth_worlds r
    have h2 : PyData.depth (dw x) = 1 := by
      unfold dw
      simp only [PyData.depth, flat_depth]
    rw [List.map_cons]
    unfold PyData.depthAll
    rw [h2]
    omega
def blk (f : Int) (k : Nat) : List Int := (List.range k).map fun (j : Nat) => f + (j : Int)
theorem blk_succ (f : Int) (k : Nat) : blk f (k + 1) = blk f k ++ [f + (k : Int)] := by
  unfold blk
  rw [List.range_succ, List.map_append]
  rfl
theorem mem_blk {f : Int} {k : Nat} {x : Int} : x ∈ blk f k ↔ f ≤ x ∧ x < f + (k : Int) := by
  unfold blk
  rw [List.mem_map]
  constructor
  · rintro ⟨j, hj, rfl⟩
    have := List.mem_range.mp hj
    omega
  · rintro ⟨h1, h2⟩
    exact ⟨(x - f).toNat, List.mem_range.mpr (by omega), by omega⟩
theorem nodup_blk (f : Int) : ∀ k : Nat, (blk f k).Nodup
  | 0 => List.nodup_nil
  | k + 1 => by
    rw [blk_succ, List.nodup_append]
    refine ⟨nodup_blk f k, by simp, fun x hx y hy => ?_⟩
    have h1 := mem_blk.mp hx
    have h2 : y = f + (k : Int) := by simpa using hy
    omega
theorem blk_length (f : Int) (k : Nat) : (blk f k).length = k := by
  unfold blk
  rw [List.length_map, List.length_range]
theorem rgV_blk (f : Int) (k : Nat) : rgV f (f + (k : Int)) = (blk f k).map V.int := by
  unfold rgV blk
  rw [List.map_map, show (f + (k : Int) - f).toNat = k by omega]
  rfl
end Nu
namespace Nu
open PySem PySem.Spec PyProof.Rows L2
/-- the draws' state s, of the script sc -/
structure Drw (K : PySem.W.Frag) (H : Hp) (s sc : Addr) (ns : List Int) : Prop where
  sq : SqL K (fun _ => none) sc (ns.map V.int) ∨ (Rd H sc (.lst (ns.map V.int)) ∧ sc ≠ s)
  at_ : ∃ i m r : Int, H s = some (.lst [.ref sc, .int i, .int m, .int r]) ∧ 0 ≤ i ∧ 0 ≤ m ∧ 0 ≤ r
theorem sq_written {K : PySem.W.Frag} {H : Hp} {c : Addr} {xs : List V} (h : SqL K (fun _ => none) c xs) : SqL K H c xs := by
  rcases h with (h | ⟨o, h⟩) | h
  · cases h
  · cases h
  · exact .inr h
theorem Drw.seq {K : PySem.W.Frag} {H : Hp} {s sc : Addr} {ns : List Int} (d : Drw K H s sc ns) : SqL K H sc (ns.map V.int) := d.sq.elim sq_written fun h => .inl h.1
theorem Keep.rd {F : List Addr} {H H' : Hp} {c : Addr} {u : HO} (k : Keep F H H') (h : Rd H c u) (hc : c ∉ F) : Rd H' c u := by
  rcases h with h | ⟨o, h⟩
  · exact .inl (k _ _ h hc)
  · exact .inr ⟨o, k _ _ h hc⟩
/-- the state's own list changed -/
theorem Drw.upd {K : PySem.W.Frag} {H : Hp} {s sc : Addr} {ns : List Int} (d : Drw K H s sc ns) {i m r : Int} (hi : 0 ≤ i) (hm : 0 ≤ m) (hr : 0 ≤ r) : Drw K (L2.upd H s (.lst [.ref sc, .int i, .int m, .int r])) s sc ns :=
  ⟨d.sq.elim .inl fun h => .inr ⟨(keep_upd (F := [s]) (.inl (List.mem_singleton.mpr rfl))).rd h.1 (fun z => h.2 (List.mem_singleton.mp z)), h.2⟩, i, m, r, upd_same, hi, hm, hr⟩
theorem Drw.stay {K : PySem.W.Frag} {H H' : Hp} {s sc : Addr} {ns : List Int} {F : List Addr} (d : Drw K H s sc ns) (k : Keep F H H') (h1 : s ∉ F) (h2 : H sc ≠ none → sc ∉ F) : Drw K H' s sc ns := by
  obtain ⟨i, m, r, e, h⟩ := d.at_
  refine ⟨d.sq.elim .inl fun q => .inr ⟨k.rd q.1 (h2 ?_), q.2⟩, i, m, r, k _ _ e h1, h⟩
  rcases q.1 with z | ⟨o, z⟩ <;> rw [z] <;> simp
section
variable {P : Program} {w : World} {K : PySem.W.Frag} {mg : Str → Option Value} {base : Heap} {a : Ad} {fd : Fd}
def spStart (K : PySem.W.Frag) : Sp := fun vs H Q _ => ∃ (sc : Addr) (ns : List Int), vs = [.ref sc] ∧ SqL K H sc (ns.map V.int) ∧ ∀ s H', H s = none → Same H H' → Drw K H' s sc ns → Q (.ref s) H'
theorem ok_l_start (T : Txt K mg a fd) : FnOk P w K mg base CX0 1 a.l_start fd.l_start ["_law_script"] (spStart K) := by
  refine T.F_l_start.ok sc_l_start (fun vs H Q E h => ?_) (fun cdv A outer s H vs Q E hr h => ?_)
  · obtain ⟨sc, ns, rfl, _⟩ := h
    rfl
  · obtain ⟨sc, ns, rfl, hS, k⟩ := h
    refine ⟨_, (pss_cons (ps_set (i := 1) sc_l_start.nd rfl (Or.inl rfl) pe_int)
    (pss_cons (ps_for PassesOwn.never rfl (pi_list (pv 0)) (pg_name (i := 2) sc_l_start.nd rfl (Or.inl rfl))
      (pss_one (ps_set (i := 1) sc_l_start.nd rfl (Or.inl rfl) (pe_op op_mod (pe_op op_add (pe_op op_add (pe_op op_mul (pv 1) pe_int) (pv 2)) pe_int) pe_int))))
    (pss_one (ps_ret (pe_lst (pa_cons (pv 0) (pa_cons pe_int (pa_cons (pv 1) (pa_cons pe_int pa_nil))))))))), ?_⟩
    refine ⟨_, rfl, sc, rfl, ⟨_, hS⟩, for_list (K := K) (a := sc) (xs := ns.map V.int) (fun i σ H' => ∃ (m : Int) (v : Option V), σ = [some (.ref sc), some (.int m), v] ∧ H' = H ∧ 0 ≤ m) ⟨1, none, rfl, rfl, by decide⟩ (fun i σ H' _ ⟨_, _, _, e, _⟩ => by rw [e]; exact hS) ?_ ?_⟩
    · rintro i x σ H' hi ⟨m, v, rfl, rfl, hm⟩
      obtain ⟨n, hn, rfl⟩ := map_int_at hi
      refine ⟨_, rfl, _, _, rfl, rfl, .inr (by decide), _, rfl, _, _, rfl, rfl, _, _, rfl, rfl, _, _, rfl, rfl, (by show (0 : Int) < 2147483647; decide), ?_⟩
      exact ⟨_, _, rfl, rfl, Int.emod_nonneg _ (by decide)⟩
    · rintro σ H' ⟨m, v, rfl, rfl, hm⟩
      refine ⟨_, rfl, _, rfl, (by show 4 ≤ sizeLine; decide), fun s ns' => ?_⟩
      refine k s _ ns' (same_upd ns') ⟨?_, 0, m, 0, upd_same, by decide, hm, by decide⟩
      rcases hS with hS | hS
      · refine .inr ⟨(Keep.same (F := []) (same_upd ns')).rd hS (by simp), fun z => ?_⟩
        rcases hS with q | ⟨o, q⟩ <;> rw [z, ns'] at q <;> cases q
      · exact .inl (.inr hS)
def spDrawn (K : PySem.W.Frag) : Sp := fun vs H Q _ => ∃ (s sc : Addr) (ns : List Int) (n : Int), vs = [.ref s, .int n] ∧ Drw K H s sc ns ∧ 1 ≤ n ∧ n.natAbs.log2 < 9000 ∧ ∀ v H', 0 ≤ v → v < n → Keep [s] H H' → Drw K H' s sc ns → Q (.int v) H'
theorem at0 {α : Type} {x0 x1 x2 x3 : α} : atI [x0, x1, x2, x3] 0 = some x0 := rfl
theorem at1 {α : Type} {x0 x1 x2 x3 : α} : atI [x0, x1, x2, x3] 1 = some x1 := rfl
theorem at2 {α : Type} {x0 x1 x2 x3 : α} : atI [x0, x1, x2, x3] 2 = some x2 := rfl
theorem at3 {α : Type} {x0 x1 x2 x3 : α} : atI [x0, x1, x2, x3] 3 = some x3 := rfl
theorem ok_l_drawn (T : Txt K mg a fd) : FnOk P w K mg base CX0 1 a.l_drawn fd.l_drawn ["_law_state", "_law_many"] (spDrawn K) := by
  refine T.F_l_drawn.ok sc_l_drawn (fun vs H Q E h => ?_) (fun cdv A outer s H vs Q E hr h => ?_)
  · obtain ⟨s, sc, ns, n, rfl, _⟩ := h
    rfl
  · obtain ⟨s, sc, ns, n, rfl, D, hn, hlog, k⟩ := h
    obtain ⟨i, m, r, e, i0, m0, r0⟩ := D.at_
    have n0 : (0 : Int) < n := by omega
    have kp : ∀ (H : Hp) (u : HO), Keep [s] H (upd H s u) := fun H u => keep_upd (.inl (List.mem_singleton.mpr rfl))
    refine ⟨_, (pss_cons (ps_if (pt_cmpR op_gt (pe_ix ix_list (pv 0) pe_int (fun _ _ => rfl)) pe_int (nomark _)) (pss_cons (ps_set (i := 2) sc_l_drawn.nd rfl (Or.inl rfl) (pe_op op_mod (pe_ix ix_list (pv 0) pe_int (fun _ _ => rfl)) (pv 1)))
    (pss_cons (ps_asg (pe_op op_fdivW (pe_ix ix_list (pv 0) pe_int (fun _ _ => rfl)) (pv 1)) (pg_sub (pv 0) pe_int set_list))
    (pss_one (ps_ret (pv 2))))) pss_nil)
    (pss_cons (ps_asg (pe_op op_add (pe_ix ix_list (pv 0) pe_int (fun _ _ => rfl)) pe_int) (pg_sub (pv 0) pe_int set_list))
    (pss_cons (ps_if (pt_cmpR op_le (pe_ix ix_list (pv 0) pe_int (fun _ _ => rfl)) (pe_callB call_len_seq (by rfl) T.n_len PySem.boot_len (pa_cons (pe_ix ix_list (pv 0) pe_int (fun _ _ => rfl)) pa_nil)) (nomark _)) (pss_cons (ps_set (i := 3) sc_l_drawn.nd rfl (Or.inl rfl) (pe_ix ix_list (pe_ix ix_list (pv 0) pe_int (fun _ _ => rfl)) (pe_op op_sub (pe_ix ix_list (pv 0) pe_int (fun _ _ => rfl)) pe_int) (fun _ _ => rfl)))
    (pss_cons (ps_asg (pe_ifExp (pt_cmpR op_ge (pv 3) (pe_op op_pow pe_int pe_int) (nomark _)) (pe_op op_fdivW (pv 3) (pv 1)) pe_int) (pg_sub (pv 0) pe_int set_list))
    (pss_one (ps_ret (pe_op op_mod (pv 3) (pv 1)))))) pss_nil)
    (pss_cons (ps_asg (pe_op op_mod (pe_op op_add (pe_op op_mul (pe_ix ix_list (pv 0) pe_int (fun _ _ => rfl)) pe_int) pe_int) pe_int) (pg_sub (pv 0) pe_int set_list))
    (pss_one (ps_ret (pe_op op_mod (pe_op op_fdiv (pe_ix ix_list (pv 0) pe_int (fun _ _ => rfl)) pe_int) (pv 1)))))))), ?_⟩
    refine ⟨_, rfl, s, _, 3, _, rfl, rfl, SqL.of e, at3, _, _, rfl, rfl, _, rfl, ?_⟩
    by_cases c : 0 < r
    · rw [decide_eq_true c]
      refine iteT ?_
      refine ⟨_, rfl, s, _, 3, _, rfl, rfl, SqL.of e, at3, _, rfl, _, _, rfl, rfl, n0, ?_⟩
      refine ⟨_, rfl, s, _, 3, _, rfl, rfl, SqL.of e, at3, _, rfl, _, _, rfl, rfl, ⟨n0, hlog⟩, ?_⟩
      refine ⟨_, rfl, s, _, 3, 3, rfl, rfl, e, rfl, ?_⟩
      refine ⟨_, rfl, k _ _ (Int.emod_nonneg _ (by omega)) (Int.emod_lt_of_pos _ n0) (kp _ _) (D.upd i0 m0 (Int.ediv_nonneg r0 (by omega)))⟩
    · rw [decide_eq_false c]
      refine iteF ?_
      refine ⟨_, rfl, s, _, 1, _, rfl, rfl, SqL.of e, at1, _, _, rfl, rfl, ?_⟩
      refine ⟨_, rfl, s, _, 1, 1, rfl, rfl, e, rfl, ?_⟩
      have e1 : (upd H s (.lst ([V.ref sc, V.int i, V.int m, V.int r].set 1 (V.int (i + 1))))) s = some (.lst [.ref sc, .int (i + 1), .int m, .int r]) := upd_same
      have D1 : Drw K (upd H s (.lst ([V.ref sc, V.int i, V.int m, V.int r].set 1 (V.int (i + 1))))) s sc ns := D.upd (i := i + 1) (by omega) m0 r0
      have sq1 := D1.seq
      refine ⟨_, rfl, s, _, 1, _, rfl, rfl, SqL.of e1, at1, _, rfl, s, _, 0, _, rfl, rfl, SqL.of e1, at0, sc, _, rfl, .inl sq1, _, _, rfl, rfl, _, rfl, ?_⟩
      by_cases c2 : i + 1 ≤ ((ns.map V.int).length : Int)
      · rw [decide_eq_true c2]
        refine iteT ?_
        rw [List.length_map] at c2
        obtain ⟨j, rfl⟩ := Int.eq_ofNat_of_zero_le i0
        have hj : j < ns.length := by omega
        have hc : (ns.map V.int)[j]? = some (V.int ns[j]) := by rw [List.getElem?_map, List.getElem?_eq_getElem hj]; rfl
        refine ⟨_, rfl, s, _, 0, _, rfl, rfl, SqL.of e1, at0, _, rfl, s, _, 1, _, rfl, rfl, SqL.of e1, at1, _, _, rfl, rfl, sc, _, _, _, rfl, rfl, sq1, (by rw [show (j : Int) + 1 - 1 = (j : Int) by omega]; exact atI_nat hc), ?_⟩
        refine ⟨_, rfl, _, _, rfl, rfl, ⟨by decide, by decide, by decide⟩, _, _, rfl, rfl, _, rfl, ?_⟩
        by_cases c3 : (10 : Int) ^ (18 : Int).toNat ≤ ns[j]
        · rw [decide_eq_true c3]
          refine iteT ?_
          refine ⟨_, rfl, _, rfl, _, _, rfl, rfl, ⟨n0, hlog⟩, ?_⟩
          refine ⟨_, rfl, s, _, 3, 3, rfl, rfl, e1, rfl, ?_⟩
          refine ⟨_, rfl, _, rfl, _, _, rfl, rfl, n0, ?_⟩
          exact k _ _ (Int.emod_nonneg _ (by omega)) (Int.emod_lt_of_pos _ n0) ((kp _ _).trans (kp _ _)) (D1.upd (by omega) m0 (Int.ediv_nonneg (Int.le_trans (by decide) c3) (by omega)))
        · rw [decide_eq_false c3]
          refine iteF ?_
          refine ⟨_, rfl, s, _, 3, 3, rfl, rfl, e1, rfl, ?_⟩
          refine ⟨_, rfl, _, rfl, _, _, rfl, rfl, n0, ?_⟩
          exact k _ _ (Int.emod_nonneg _ (by omega)) (Int.emod_lt_of_pos _ n0) ((kp _ _).trans (kp _ _)) (D1.upd (by omega) m0 (Int.le_refl _))
      · rw [decide_eq_false c2]
        refine iteF ?_
        refine ⟨_, rfl, s, _, 2, _, rfl, rfl, SqL.of e1, at2, _, _, rfl, rfl, .inr (by decide), _, _, rfl, rfl, _, _, rfl, rfl, (by show (0 : Int) < 2147483647; decide), ?_⟩
        refine ⟨_, rfl, s, _, 2, 2, rfl, rfl, e1, rfl, ?_⟩
        refine ⟨_, rfl, s, _, 2, _, rfl, rfl, SqL.of upd_same, at2, _, _, rfl, rfl, ⟨by decide, by decide⟩, _, rfl, _, _, rfl, rfl, n0, ?_⟩
        exact k _ _ (Int.emod_nonneg _ (by omega)) (Int.emod_lt_of_pos _ n0) ((kp _ _).trans (kp _ _)) (D1.upd (by omega) (Int.emod_nonneg _ (by decide)) r0)
end
end Nu
namespace Nu
open PySem PySem.Spec PyProof.Rows L2
section
variable {X : Cx} {K : PySem.W.Frag}
theorem ixL_K (h : X.K = K) : IxR X (rIxL K) := h ▸ ix_list
theorem ixT_K (h : X.K = K) : IxR X (rIxT K) := h ▸ ix_tup
theorem ixS_K (h : X.K = K) : IxR X (rIx K) := h ▸ ix_seq
theorem inSeq_K (h : X.K = K) : OpR X (compareOp .In) (rIn K false) := h ▸ op_in_seq
theorem notInSeq_K (h : X.K = K) : OpR X (compareOp .NotIn) (rIn K true) := h ▸ op_notIn_seq
theorem pe_fldK {e : Expr} {f : Str} {pos : Pos} {ta : TE} (h : X.K = K) (he : PE X e ta) (hb : attributeBase e f X.env (eval e X.env) = eval e X.env) : PE X (.Attribute e f pos) (tFld K ta f) := h ▸ pe_fld he hb
end
/-- a list (b true) or a tuple at p -/
def SqB (H : Hp) (p : Addr) (xs : List V) (b : Bool) : Prop := H p = some (if b = true then .lst xs else .tup xs)
/-- the same data, at most n deep -/
def SmD (H : Hp) : Nat → V → V → Prop
  | 0, _, _ => False
  | n + 1, x, y => (x = y ∧ flatV y = true) ∨ ∃ p q xs ys b, x = .ref p ∧ y = .ref q ∧ SqB H p xs b ∧ SqB H q ys b ∧ xs.length = ys.length ∧ xs.length ≤ 1000 ∧ ∀ (i : Nat) (u v : V), xs[i]? = some u → ys[i]? = some v → SmD H n u v
theorem SmD.same {H H' : Hp} (s : Same H H') : ∀ (n : Nat) (x y : V), SmD H n x y → SmD H' n x y
  | 0, _, _, h => h.elim
  | n + 1, x, y, h => by
    rcases h with h | ⟨p, q, xs, ys, b, e1, e2, h1, h2, h3, h4, h5⟩
    · exact .inl h
    · exact .inr ⟨p, q, xs, ys, b, e1, e2, s _ _ h1, s _ _ h2, h3, h4, fun i u v a c => SmD.same s n u v (h5 i u v a c)⟩
theorem SqB.seq {K : PySem.W.Frag} {H : Hp} {p : Addr} {xs : List V} {b : Bool} (h : SqB H p xs b) : SqL K H p xs ∨ SqT K H p xs := by
  cases b with
  | true => exact .inl (SqL.of h)
  | false => exact .inr (SqT.of h)
theorem rix_seq {K : PySem.W.Frag} {H : Hp} {p : Addr} {xs : List V} {b : Bool} {j : Nat} {v : V} {Q : VK} (h : SqB H p xs b) (e : xs[j]? = some v) (q : Q v H) : rIx K (.ref p) (.int (j : Int)) H Q := by
  cases b with
  | true => exact .inl ⟨p, xs, _, v, rfl, rfl, SqL.of h, atI_nat e, q⟩
  | false => exact .inr (.inl ⟨p, xs, _, v, rfl, rfl, SqT.of h, atI_nat e, q⟩)
theorem notTL {K : PySem.W.Frag} {n : String} (h1 : kitB n "tuple" = some false) (h2 : kitB n "list" = some false) : PySem.W.kitAny K (.type n) [.type "tuple", .type "list"] = some false :=
  kitAny_cons (kit_ty h1) (fun _ => kitAny_cons (kit_ty h2) (fun _ => kitAny_nil) (fun z => by cases z)) (fun z => by cases z)
theorem isTL {K : PySem.W.Frag} (b : Bool) : PySem.W.kitAny K (.type (if b = true then "list" else "tuple")) [.type "tuple", .type "list"] = some true := by
  cases b with
  | true => exact kitAny_cons (kit_ty (r := false) (by decide +kernel)) (fun _ => kitAny_cons (kit_ty (r := true) (by decide +kernel)) (fun z => by cases z) (fun _ => rfl)) (fun z => by cases z)
  | false => exact kitAny_cons (kit_ty (r := true) (by decide +kernel)) (fun z => by cases z) (fun _ => rfl)
theorem isL {K : PySem.W.Frag} (b : Bool) : PySem.W.kitOne K (.type (if b = true then "list" else "tuple")) (.type "list") = some b := by
  cases b with
  | true => exact kit_ty (by decide +kernel)
  | false => exact kit_ty (by decide +kernel)
theorem tyB {K : PySem.W.Frag} {H : Hp} {p : Addr} {xs : List V} {b : Bool} (h : SqB H p xs b) : TyX K H (.ref p) (.type (if b = true then "list" else "tuple")) := by
  cases b with
  | true => exact .base (.lst h)
  | false => exact .base (.tup h)
theorem SqB.upd_new {H : Hp} {p t : Addr} {xs : List V} {b : Bool} {o : HO} (h : SqB H p xs b) (ht : H t = none) : SqB (upd H t o) p xs b := same_upd ht _ _ h
theorem tl_paired : Paired ClsV [.ty "tuple", .ty "list"] [.type "tuple", .type "list"] := .cons (.ty "tuple") (.cons (.ty "list") .nil)
section
variable {P : Program} {w : World} {K : PySem.W.Frag} {mg : Str → Option Value} {base : Heap} {a : Ad} {fd : Fd}
def spSame (n : Nat) : Sp := fun vs H Q _ => ∃ (x y : V), vs = [x, y] ∧ SmD H n x y ∧ ∀ H', Same H H' → Q (.bl true) H'
theorem ok_l_same (T : Txt K mg a fd) : ∀ n : Nat, FnOk P w K mg base CX0 (n + 1) a.l_same fd.l_same ["_law_found", "_law_due"] (spSame n)
  | 0 => by
    refine T.F_l_same.ok sc_l_same (fun vs H Q E h => ?_) (fun cdv A outer s H vs Q E hr h => ?_)
    · obtain ⟨x, y, rfl, _⟩ := h
      rfl
    · obtain ⟨x, y, rfl, h, _⟩ := h
      exact h.elim
  | n + 1 => by
    have G_l_same := ok_l_same T n
    refine T.F_l_same.ok sc_l_same (fun vs H Q E h => ?_) (fun cdv A outer s H vs Q E hr h => ?_)
    · obtain ⟨x, y, rfl, _⟩ := h
      rfl
    · obtain ⟨x, y, rfl, h, k⟩ := h
      refine ⟨_, (pss_cons (ps_if (pt_val (pe_callB call_isiT (by rfl) T.n_isinstance (by decide +kernel) (pa_cons (pv 1) (pa_cons (pe_tup (pa_cons (pe_bltn (v := .ty "tuple") (by rfl) T.n_tuple (by decide +kernel) rfl) (pa_cons (pe_bltn (v := .ty "list") (by rfl) T.n_list (by decide +kernel) rfl) pa_nil))) pa_nil)))) (pss_cons (ps_if (PW.pt (pw_or (pt_not (pt_val (pe_callB call_isiT (by rfl) T.n_isinstance (by decide +kernel) (pa_cons (pv 0) (pa_cons (pe_tup (pa_cons (pe_bltn (v := .ty "tuple") (by rfl) T.n_tuple (by decide +kernel) rfl) (pa_cons (pe_bltn (v := .ty "list") (by rfl) T.n_list (by decide +kernel) rfl) pa_nil))) pa_nil))))) (pw_or1 (pt_cmpR op_ne (pe_callB call_isi (by rfl) T.n_isinstance (by decide +kernel) (pa_cons (pv 0) (pa_cons (pe_bltn (v := .ty "list") (by rfl) T.n_list (by decide +kernel) rfl) pa_nil))) (pe_callB call_isi (by rfl) T.n_isinstance (by decide +kernel) (pa_cons (pv 1) (pa_cons (pe_bltn (v := .ty "list") (by rfl) T.n_list (by decide +kernel) rfl) pa_nil))) (nomark _))))) (pss_one (ps_ret pe_bl)) pss_nil)
    (pss_cons (ps_if (pt_cmpR op_ne (pe_callB call_len_seq (by rfl) T.n_len PySem.boot_len (pa_cons (pv 0) pa_nil)) (pe_callB call_len_seq (by rfl) T.n_len PySem.boot_len (pa_cons (pv 1) pa_nil)) (nomark _)) (pss_one (ps_ret pe_bl)) pss_nil)
    (pss_one (ps_ret (pe_cmpR (op_eqD hr.units) (pe_lc (own := [("_law_k", 2)]) (g := gName 2) (by rfl) sc_l_same.nd (pi_range1 (by rfl) T.n_range (pa_cons (pe_callB call_len_seq (by rfl) T.n_len PySem.boot_len (pa_cons (pv 1) pa_nil)) pa_nil)) (blkOk_by (own := [("_law_k", 2)]) (N := ["_law_found", "_law_due", "_law_k"]) (sc := defScope s_l_same) (by decide +kernel)) (fun _ _ _ _ _ => pg_name (i := 2) sc_l_same.nd rfl (Or.inl rfl)) (fun _ _ _ _ _ => (pts_one (pt_not (pt_val (pe_call G_l_same hr (by rfl) T.g_l_same T.F_l_same.kp T.b_l_same .nil pass0 (pa_cons (pe_ix (ixS_K (K := K) rfl) (pv 0) (pv 2) (fun _ _ => rfl)) (pa_cons (pe_ix (ixS_K (K := K) rfl) (pv 1) (pv 2) (fun _ _ => rfl)) pa_nil))))))) (fun _ _ _ _ _ => (pv 2))) (pe_lst pa_nil) (nomark _)))))) pss_nil)
    (pss_cons (ps_if (pt_cmpR op_isN (pv 1) pe_non (nomark _)) (pss_one (ps_ret (pe_cmpR op_isN (pv 0) pe_non (nomark _)))) pss_nil)
    (pss_cons (ps_if (pt_val (pe_callB call_isi (by rfl) T.n_isinstance (by decide +kernel) (pa_cons (pv 1) (pa_cons (pe_bltn (v := .ty "str") (by rfl) T.n_str (by decide +kernel) rfl) pa_nil)))) (pss_one (ps_ret (pe_and (pe_callB call_isi (by rfl) T.n_isinstance (by decide +kernel) (pa_cons (pv 0) (pa_cons (pe_bltn (v := .ty "str") (by rfl) T.n_str (by decide +kernel) rfl) pa_nil))) (pe_one (pe_cmpR op_eq (pv 0) (pv 1) (nomark _)))))) pss_nil)
    (pss_cons (ps_if (PW.pt (pw_or (pt_val (pe_callB call_isi (by rfl) T.n_isinstance (by decide +kernel) (pa_cons (pv 1) (pa_cons (pe_bltn (v := .ty "bool") (by rfl) T.n_bool (by decide +kernel) rfl) pa_nil)))) (pw_or1 (pt_val (pe_callB call_isi (by rfl) T.n_isinstance (by decide +kernel) (pa_cons (pv 0) (pa_cons (pe_bltn (v := .ty "bool") (by rfl) T.n_bool (by decide +kernel) rfl) pa_nil))))))) (pss_one (ps_ret (pe_and (pe_callB call_isi (by rfl) T.n_isinstance (by decide +kernel) (pa_cons (pv 1) (pa_cons (pe_bltn (v := .ty "bool") (by rfl) T.n_bool (by decide +kernel) rfl) pa_nil))) (pe_and (pe_callB call_isi (by rfl) T.n_isinstance (by decide +kernel) (pa_cons (pv 0) (pa_cons (pe_bltn (v := .ty "bool") (by rfl) T.n_bool (by decide +kernel) rfl) pa_nil))) (pe_one (pe_cmpR op_eq (pv 0) (pv 1) (nomark _))))))) pss_nil)
    (pss_one (ps_ret (pe_and (pe_callB call_isi (by rfl) T.n_isinstance (by decide +kernel) (pa_cons (pv 0) (pa_cons (pe_bltn (v := .ty "int") (by rfl) T.n_int (by decide +kernel) rfl) pa_nil))) (pe_one (pe_cmpR op_eq (pv 0) (pv 1) (nomark _)))))))))), ?_⟩
      rcases h with ⟨rfl, hf⟩ | ⟨p, q, xs, ys, b, rfl, rfl, h1, h2, h3, h4, h5⟩
      · -- a number, a text, a truth, nothing
        cases x with
        | non =>
          refine ⟨_, rfl, (by show 2 ≤ sizeLine; decide), fun t ht => ⟨_, t, _, _, _, _, rfl, upd_same, tl_paired, .base .non, notTL (by decide +kernel) (by decide +kernel), _, rfl, iteF ?_⟩⟩
          refine ⟨_, rfl, rfl, _, rfl, iteT ?_⟩
          exact ⟨_, rfl, rfl, k _ (same_upd ht)⟩
        | bl c =>
          refine ⟨_, rfl, (by show 2 ≤ sizeLine; decide), fun t ht => ⟨_, t, _, _, _, _, rfl, upd_same, tl_paired, .base (.bl c), notTL (by decide +kernel) (by decide +kernel), _, rfl, iteF ?_⟩⟩
          refine ⟨_, rfl, rfl, _, rfl, iteF ?_⟩
          refine ⟨_, rfl, _, _, _, _, _, rfl, .ty "str", .base (.bl c), kit_ty (r := false) (by decide +kernel), _, rfl, iteF ?_⟩
          refine ⟨_, rfl, _, _, _, _, _, rfl, .ty "bool", .base (.bl c), kit_ty (r := true) (by decide +kernel), _, rfl, iteT (iteT ?_)⟩
          refine ⟨_, rfl, _, _, _, _, _, rfl, .ty "bool", .base (.bl c), kit_ty (r := true) (by decide +kernel), _, rfl, iteT ?_⟩
          refine ⟨_, rfl, _, _, _, _, _, rfl, .ty "bool", .base (.bl c), kit_ty (r := true) (by decide +kernel), _, rfl, iteT ?_⟩
          refine ⟨_, rfl, _, rfl, rfl, ?_⟩
          rw [decide_eq_true rfl]
          exact k _ (same_upd ht)
        | int c =>
          refine ⟨_, rfl, (by show 2 ≤ sizeLine; decide), fun t ht => ⟨_, t, _, _, _, _, rfl, upd_same, tl_paired, .base (.int c), notTL (by decide +kernel) (by decide +kernel), _, rfl, iteF ?_⟩⟩
          refine ⟨_, rfl, rfl, _, rfl, iteF ?_⟩
          refine ⟨_, rfl, _, _, _, _, _, rfl, .ty "str", .base (.int c), kit_ty (r := false) (by decide +kernel), _, rfl, iteF ?_⟩
          refine ⟨_, rfl, _, _, _, _, _, rfl, .ty "bool", .base (.int c), kit_ty (r := false) (by decide +kernel), _, rfl, iteF ?_⟩
          refine ⟨_, rfl, _, _, _, _, _, rfl, .ty "bool", .base (.int c), kit_ty (r := false) (by decide +kernel), _, rfl, iteF ?_⟩
          refine ⟨_, rfl, _, _, _, _, _, rfl, .ty "int", .base (.int c), kit_ty (r := true) (by decide +kernel), _, rfl, iteT ?_⟩
          refine ⟨_, rfl, _, rfl, rfl, ?_⟩
          rw [decide_eq_true rfl]
          exact k _ (same_upd ht)
        | str c =>
          refine ⟨_, rfl, (by show 2 ≤ sizeLine; decide), fun t ht => ⟨_, t, _, _, _, _, rfl, upd_same, tl_paired, .base (.str c), notTL (by decide +kernel) (by decide +kernel), _, rfl, iteF ?_⟩⟩
          refine ⟨_, rfl, rfl, _, rfl, iteF ?_⟩
          refine ⟨_, rfl, _, _, _, _, _, rfl, .ty "str", .base (.str c), kit_ty (r := true) (by decide +kernel), _, rfl, iteT ?_⟩
          refine ⟨_, rfl, _, _, _, _, _, rfl, .ty "str", .base (.str c), kit_ty (r := true) (by decide +kernel), _, rfl, iteT ?_⟩
          refine ⟨_, rfl, _, rfl, rfl, ?_⟩
          rw [decide_eq_true rfl]
          exact k _ (same_upd ht)
        | byt c => cases hf
        | flt c => cases hf
        | ref c => cases hf
        | ty c => cases hf
      · -- lists, tuples
        refine ⟨_, rfl, (by show 2 ≤ sizeLine; decide), fun t ht => ⟨_, t, _, _, _, _, rfl, upd_same, tl_paired, tyB (h2.upd_new ht), isTL b, _, rfl, iteT ?_⟩⟩
        have p1 := h1.upd_new (o := .tup [V.ty "tuple", V.ty "list"]) ht
        have q1 := h2.upd_new (o := .tup [V.ty "tuple", V.ty "list"]) ht
        refine ⟨_, rfl, (by show 2 ≤ sizeLine; decide), fun t2 ht2 => ⟨_, t2, _, _, _, _, rfl, upd_same, tl_paired, tyB (p1.upd_new ht2), isTL b, _, rfl, iteF ?_⟩⟩
        have p2 := p1.upd_new (o := .tup [V.ty "tuple", V.ty "list"]) ht2
        have q2 := q1.upd_new (o := .tup [V.ty "tuple", V.ty "list"]) ht2
        have s2 : Same H _ := (same_upd (o := .tup [V.ty "tuple", V.ty "list"]) ht).trans (same_upd (o := .tup [V.ty "tuple", V.ty "list"]) ht2)
        refine ⟨_, rfl, _, _, _, _, _, rfl, .ty "list", tyB p2, isL b, _, rfl, _, _, _, _, _, rfl, .ty "list", tyB q2, isL b, rfl, _, rfl, ?_⟩
        rw [decide_eq_true rfl]
        refine iteF ?_
        refine ⟨_, rfl, p, _, rfl, p2.seq, _, rfl, q, _, rfl, q2.seq, rfl, _, rfl, ?_⟩
        rw [decide_eq_true (by rw [h3])]
        refine iteF ?_
        -- return [..] == []
        refine ⟨_, rfl, q, _, rfl, q2.seq, _, rfl, by omega, by omega, fun D nD => ?_⟩
        refine ⟨fun i m H' => m = ys.length - i ∧ i ≤ ys.length ∧ Same _ H' ∧ H' D = some (.lst []), ⟨ys.length, rfl, Nat.zero_le _, same_upd nD, upd_same⟩, ?_⟩
        rintro i m H3 ⟨rfl, hi, s3, hD⟩
        by_cases hlt : i < ys.length
        · refine .inr ⟨by show i < ((ys.length : Nat) : Int).toNat; omega, fun H' => Same _ H' ∧ H' D = some (.lst []), fun H' q => ⟨ys.length - (i + 1), by omega, rfl, hlt, q⟩, fun x H4 y => ?_⟩
          obtain ⟨rfl, rfl⟩ := y
          refine ⟨rfl, ?_⟩
          have ex : xs[i]? = some (xs[i]'(by omega)) := List.getElem?_eq_getElem _
          have ey : ys[i]? = some ys[i] := List.getElem?_eq_getElem hlt
          have e0 : (0 : Int) + (i : Int) = (i : Int) := by omega
          refine ⟨_, rfl, _, rfl, ?_⟩
          rw [e0]
          refine rix_seq (s3 _ _ p2) ex ⟨_, rfl, _, rfl, ?_⟩
          refine rix_seq (s3 _ _ q2) ey ⟨_, _, rfl, SmD.same (s2.trans s3) _ _ _ (h5 i _ _ ex ey), fun H5 s5 => ⟨_, rfl, iteF ?_⟩⟩
          exact ⟨s3.trans s5, s5 _ _ hD⟩
        · refine .inl ⟨by show ((ys.length : Nat) : Int).toNat ≤ i; omega, ?_⟩
          refine ⟨Nat.zero_le _, fun e ne => ⟨.list [], .list [], .lst (SqL.of ?_) .nil, .lst (SqL.of upd_same) .nil, rfl, rfl, ?_⟩⟩
          · rw [upd_ne (fun z => by rw [z, ne] at hD; cases hD)]
            exact hD
          · exact k _ ((s2.trans s3).trans (same_upd ne))
end
end Nu
namespace Nu
open PySem PySem.Spec PyProof.Rows L2
theorem Drw.new {K : PySem.W.Frag} {H : Hp} {s sc : Addr} {ns : List Int} (D : Drw K H s sc ns) {l : Addr} {o : HO} (hl : H l = none) : Drw K (L2.upd H l o) s sc ns :=
  D.stay (Keep.same (F := []) (same_upd hl)) (by simp) (fun _ => by simp)
theorem Drw.same {K : PySem.W.Frag} {H H' : Hp} {s sc : Addr} {ns : List Int} (D : Drw K H s sc ns) (e : Same H H') : Drw K H' s sc ns :=
  D.stay (Keep.same (F := []) e) (by simp) (fun _ => by simp)
theorem Drw.ns {K : PySem.W.Frag} {H : Hp} {s sc l : Addr} {ns : List Int} (D : Drw K H s sc ns) (hl : H l = none) : l ∉ [s] := fun z => by
  obtain ⟨i, m, r, e, _⟩ := D.at_
  rw [List.mem_singleton.mp z, e] at hl
  cases hl
theorem Drw.over {K : PySem.W.Frag} {H H' : Hp} {s sc l : Addr} {ns : List Int} {o : HO} (D : Drw K H s sc ns) (k : Keep [s] H H') (D' : Drw K H' s sc ns) (hl : H l = none) : Drw K (L2.upd H' l o) s sc ns := by
  have nls := D.ns hl
  obtain ⟨i, m, r, e, h⟩ := D'.at_
  refine ⟨D.sq.elim .inl fun q => .inr ⟨?_, q.2⟩, i, m, r, by rw [upd_ne (fun z => nls (by rw [z]; exact List.mem_singleton.mpr rfl))]; exact e, h⟩
  have h1 := k.rd q.1 (fun z => q.2 (List.mem_singleton.mp z))
  have ne : sc ≠ l := fun z => by
    rcases q.1 with g | ⟨ob, g⟩ <;> rw [z, hl] at g <;> cases g
  rcases h1 with g | ⟨ob, g⟩
  · exact .inl (by rw [upd_ne ne]; exact g)
  · exact .inr ⟨ob, by rw [upd_ne ne]; exact g⟩
theorem tup_keep {H H' : Hp} {s : Addr} {xs : List V} (k : Keep [s] H H') (hs : H s = some (.lst xs)) : ∀ c ys, H c = some (.tup ys) → H' c = some (.tup ys) := fun c ys e => k c _ e fun z => by
  rw [List.mem_singleton.mp z, hs] at e
  cases e
theorem Drw.tups {K : PySem.W.Frag} {H H' : Hp} {s sc : Addr} {ns : List Int} (d : Drw K H s sc ns) (k : Keep [s] H H') : ∀ c xs, H c = some (.tup xs) → H' c = some (.tup xs) := by
  obtain ⟨i, m, r, e, _⟩ := d.at_
  exact fun c xs h => tup_keep k e c xs h
end Nu
namespace Nu
open PySem PySem.Spec PyProof.Rows L2
theorem countP_V {y : V} : ∀ {xs : List V} {us : List Value}, Vals xs us → xs.all flatV = true → us.countP (eqU y) = xs.countP fun z => eqV z y
  | _, _, .nil, _ => rfl
  | x :: xs, u :: us, .cons r t, f => by
    rw [List.all_cons, Bool.and_eq_true] at f
    rw [List.countP_cons, List.countP_cons, countP_V t f.2, eqU_of r f.1]
def rCntF (K : PySem.W.Frag) : V → List V → Hp → VK → Prop := fun x xs H Q => ∃ (p : Addr) (ys : List V) (y : V), x = .ref p ∧ xs = [y] ∧ SqL K H p ys ∧ flatV y = true ∧ ys.all flatV = true ∧ Q (.int ((ys.countP fun z => eqV z y : Nat) : Int)) H
theorem mt_countF {X : Cx} {K : PySem.W.Frag} (hK : X.K = K := by rfl) : MtR X "list.count" (rCntF K) := by
  subst hK
  intro pins s σ H x xs v us Q I rx rxs h
  obtain ⟨p, ys, y, ex, exs, hs, fy, fys, q⟩ := h
  subst ex exs
  cases (show v = Value.ref p from rx)
  obtain ⟨u, rfl, ru⟩ := rxs.one
  obtain ⟨its, rv, ⟨⟨cls, dd, data, sl⟩, n, ho, hc, hdn, hd⟩, hlen⟩ := I.list hs
  simp only at hc hd
  subst hc hd
  refine call_meets PySem.F.slot_list_count ⟨_, ho, rfl⟩ PySem.F.entry_list_count (PySem.F.args_list_count_2 _ _) (SeqAt.list_countAt p its.toArray n dd sl u (eqU y))
    ⟨ho, fun u' hu' => mem_eqAt ru fy rv fys u' (by simpa using hu'), ?_⟩
  have ec : its.toArray.toList.countP (eqU y) = ys.countP fun z => eqV z y := countP_V rv fys
  rw [ec]
  exact ⟨.int _, H, I.tok _, ⟨_, rfl⟩, q⟩
theorem mt_indexK {X : Cx} {K : PySem.W.Frag} (hK : X.K = K) : MtR X "list.index" (rIndex K) := hK ▸ mt_index
section
variable {X : Cx} {K : PySem.W.Frag} {o e : Expr} {es : List Expr} {name T : Str}
def rIsG (K : PySem.W.Frag) (a : Addr) (cls : Value) (d : Option Addr) : List V → Hp → VK → Prop := fun xs H Q => ∃ D, cls = .ref D ∧ d = none ∧ ExcC K D ∧ rIsE K D a xs H Q
theorem call_isG {a : Addr} {cls : Value} {d : Option Addr} {oe : Obj} {pn : List (Addr × Obj)} (hz : Zc cls d oe) (hf : ∃ vs, oe.data = .fields vs) (hK : X.K = K := by rfl) : CallR (X.suite a ((a, oe) :: pn)) (.builtin "isinstance") (rIsG K a cls d) := by
  subst hK
  intro pins s σ H xs us Q I r h
  obtain ⟨D, e1, e2, C, h⟩ := h
  subst e1 e2
  exact call_isE C hz hf pins s σ H xs us Q I r h
def rIsGT (K : PySem.W.Frag) (a : Addr) (cls : Value) (d : Option Addr) : List V → Hp → VK → Prop := fun xs H Q => ∃ (D tp : Addr) (cs : List V) (us : List Value) (b : Bool), cls = .ref D ∧ d = none ∧ ExcC K D ∧ xs = [.ref a, .ref tp] ∧ H tp = some (.tup cs) ∧ Paired ClsV cs us ∧ PySem.W.kitAny K (.ref D) us = some b ∧ Q (.bl b) H
theorem call_isGT {a : Addr} {cls : Value} {d : Option Addr} {oe : Obj} {pn : List (Addr × Obj)} (hz : Zc cls d oe) (hf : ∃ vs, oe.data = .fields vs) (hK : X.K = K := by rfl) : CallR (X.suite a ((a, oe) :: pn)) (.builtin "isinstance") (rIsGT K a cls d) := by
  subst hK
  intro pins s σ H xs us Q I r h
  obtain ⟨D, tp, cs, ws, b, e1, e2, C, e3, hT, k, ea, q⟩ := h
  subst e1 e2 e3
  obtain ⟨u1, u2, rfl, r1, r2⟩ := vals2 r
  cases (show u1 = Value.ref a from r1)
  cases (show u2 = Value.ref tp from r2)
  obtain ⟨hget, _⟩ := I.pin (a, oe) (List.mem_append.mpr (.inl List.mem_cons_self))
  obtain ⟨vs, hv⟩ := hf
  have J : PySem.W.InstAt s.heap a oe D none := by
    obtain ⟨oc, od, oda, osl⟩ := oe
    obtain ⟨h1, h2⟩ := hz
    dsimp only at h1 h2 hv
    subst h1 h2 hv
    exact ⟨hget, rfl, rfl, trivial⟩
  obtain ⟨_, its, rv, ob, g1, g2, n, g3⟩ := (show ObjOk X.prog X.w H s.heap tp (.tup cs) from I.hok tp _ hT)
  have e3 := ClsV.all k rv
  subst e3
  obtain ⟨oc, od, dt, sl⟩ := ob
  simp only at g2 g3
  subst g2 g3
  exact PySem.W.kia_tup (PySem.W.handS_kitx_exc C.hg C.hk C.hs C.hd C.ha C.hn C.ht C.hm) I.kIn J g1 ea (fun z => nomatch z) fun tk => ⟨.bl b, H, I.kept (t' := tk) fun _ _ z => z, rfl, q⟩
end
section
variable {X : Cx} {K : PySem.W.Frag} {o e : Expr} {es : List Expr} {to : TE} {t : L2.TA} {name : Str} {apos cpos : Pos} {T id : String} {r : V → List V → Hp → VK → Prop}
theorem pe_bmK (hK : X.K = K) (pa : PlainAttrs T) (slot : Slot T name id) (hty : typeOf (.builtin id) = pure (.type "method_descriptor")) (hm : MtR X id r) (ho : PE X o to) (ha : PA X (e :: es) t)
    (h1 : attributeBase o name X.env (eval o X.env) = eval o X.env := by rfl)
    (h2 : (((backTo cpos (starEach (e :: es) X.env)).all fun x => !x.fst) && (backToKw cpos (keywordEach [] X.env)).all (fun x => x.fst.isSome) && decide (((e :: es).length + ([] : List Keyword).length + if ([] : List Keyword).isEmpty = true then 0 else 1) < 30)) = true := by rfl)
    (h3 : (apos.endLine == cpos.line) = true := by rfl) (h4 : starEach (e :: es) X.env = (false, eval e X.env) :: starEach es X.env := by rfl) (h5 : ((backTo cpos (starEach es X.env)).any fun x => x.fst) = false := by rfl) :
    PE X (.Call (.Attribute o name apos) (e :: es) [] cpos) (tBM K T r to t) := hK ▸ pe_bm pa slot hty hm ho ha h1 h2 h3 h4 h5
end
end Nu
namespace Nu
open PySem PySem.Spec PyProof.Rows L2
theorem sm_seqT {K : PySem.W.Frag} {H H' : Hp} {c : Addr} {xs : List V} (k : Same H H') (h : SqT K H c xs) : SqT K H' c xs := by
  rcases h with (h | ⟨o, h⟩) | h
  · exact .inl (.inl (k _ _ h))
  · exact .inl (.inr ⟨o, k _ _ h⟩)
  · exact .inr h
/-! ### list(zip(a, b)) of two tuples -/
theorem zip_no_len : typeLookup (.type "zip") "__len__" = pure none := am_miss_of_fast (by decide +kernel)
theorem zip_no_hint : typeLookup (.type "zip") "__length_hint__" = pure none := am_miss_of_fast (by decide +kernel)
section
variable {prog : Program} {w : World} {A : Around} {E : Value → Shared → Prop} {s : Shared}
theorem held_step {z u t T j1 j2 la lb : Addr} {fl : Bool} {oT : Obj} {m1 m2 : Nat} {as bs : Array Value} {x y : Value} {Q : Value → Shared → Prop} (D : ZipApart z u t j1 j2 la lb)
    (gz : IsZipHeld s.heap z u t T fl) (gT : s.heap.get? T = some oT) (gu : IsPair s.heap u (.ref j1) (.ref j2))
    (g1 : s.heap.IsTupleIter j1 la m1) (g2 : s.heap.IsTupleIter j2 lb m2) (ga : s.heap.IsTuple la as) (gb : s.heap.IsTuple lb bs) (ex : as[m1]? = some x) (ey : bs[m2]? = some y)
    (hQ : ∀ h', IsZipHeld h' z u t T true → h'.IsTupleIter j1 la (m1 + 1) → h'.IsTupleIter j2 lb (m2 + 1) → IsPair h' s.heap.objs.size x y → h'.objs.size = s.heap.objs.size + 1 →
      (∀ c o, c ≠ z → c ≠ j1 → c ≠ j2 → s.heap.get? c = some o → h'.get? c = some o) → Q (.ref s.heap.objs.size) { s with heap := h' }) :
    wpAny (model prog w) A (Builtin.«zip.__next__» ⟨[.ref z], []⟩) (fun fin s' => ∃ v, fin = .done (.ret v) ∧ Q v s') E s := by
  show wpAny _ A (field (.ref z) 2 >>= _) _ E s
  refine wpAny_bind (wpAny_field gz rfl (x := .bool false) rfl ?_)
  show wpAny _ A (field (.ref z) 3 >>= _) _ E s
  refine wpAny_bind (wpAny_field gz rfl (x := .ref u) rfl ?_)
  refine wpAny_bind (wpAny_seqItems gu rfl ?_)
  show wpAny _ A (Builtin.SmallTypes.ownedTupleIsFree (.ref z) >>= _) _ E s
  refine wpAny_bind (wpAny_tupleHeld_zip gz gT fun ha gza sa => ?_)
  simp only [Bool.false_eq_true, ite_false]
  refine wpAny_bind ?_
  rw [← Array.forIn_toList]
  simp only [List.forIn_nil, List.forIn_cons]
  refine wpAny_bind (wpAny_bind (wpAny_holding (M := model prog w) ?_))
  show wpAny _ A (Builtin.SmallTypes.nextOf (.ref j1) >>= _) _ E _
  refine wpAny_bind (RZ.nextOf_tuple_item (s := { s with heap := ha }) (g1.extBut sa.extBut D.i1z) (ga.extBut sa.extBut D.l1z) ex fun hb gb1 sb => wpAny_pure ?_)
  refine wpAny_pure ?_
  refine wpAny_bind (wpAny_bind (wpAny_holding (M := model prog w) ?_))
  show wpAny _ A (Builtin.SmallTypes.nextOf (.ref j2) >>= _) _ E _
  refine wpAny_bind (RZ.nextOf_tuple_item (s := { s with heap := hb }) ((g2.extBut sa.extBut D.i2z).extBut sb.extBut D.i12.symm) ((gb.extBut sa.extBut D.l2z).extBut sb.extBut D.l2i1) ey fun hc gc2 sc => wpAny_pure ?_)
  refine wpAny_pure (M := model prog w) (wpAny_pure ?_)
  show wpAny _ A (newTuple [x, y] >>= _) _ E _
  refine wpAny_bind (wpAny_newTuple ?_)
  have esz : hc.objs.size = s.heap.objs.size := by rw [sc.1, sb.1, sa.1]
  have gzc : IsZipHeld hc z u t T true := sc.extBut _ _ D.i2z.symm (sb.extBut _ _ D.i1z.symm gza)
  have hk : ∀ c o, c ≠ z → c ≠ j1 → c ≠ j2 → s.heap.get? c = some o → hc.get? c = some o := fun c o n1 n2 n3 e => sc.extBut _ _ n3 (sb.extBut _ _ n2 (sa.extBut _ _ n1 e))
  have gc1 : hc.IsTupleIter j1 la (m1 + 1) := gb1.extBut sc.extBut D.i12
  refine wpAny_pure ⟨.ref hc.objs.size, rfl, ?_⟩
  have gp : IsPair (hc.push { cls := .type "tuple", data := .seq #[x, y] }) hc.objs.size x y := Heap.get?_push_size _ rfl
  have ep : (hc.push { cls := .type "tuple", data := .seq #[x, y] }).objs.size = hc.objs.size + 1 := Heap.size_push ..
  rw [esz] at gp ep ⊢
  exact hQ _ (Heap.get?_push_of_some _ gzc) (gc1.at fun o e => Heap.get?_push_of_some _ e) (gc2.at fun o e => Heap.get?_push_of_some _ e) gp ep fun c o n1 n2 n3 e => Heap.get?_push_of_some _ (hk c o n1 n2 n3 e)
theorem held_last {z u t T j1 j2 la lb : Addr} {fl : Bool} {oT : Obj} {m1 m2 : Nat} {as bs : Array Value} {Q : Fin → Shared → Prop} (nh : A.handled = none) (D : ZipApart z u t j1 j2 la lb)
    (gz : IsZipHeld s.heap z u t T fl) (gT : s.heap.get? T = some oT) (gu : IsPair s.heap u (.ref j1) (.ref j2))
    (g1 : s.heap.IsTupleIter j1 la m1) (g2 : s.heap.IsTupleIter j2 lb m2) (ga : s.heap.IsTuple la as) (gb : s.heap.IsTuple lb bs) (en : as[m1]? = none ∨ bs[m2]? = none)
    (hE : ∀ h' e, (∀ c o, c ≠ z → c ≠ j1 → c ≠ j2 → s.heap.get? c = some o → h'.get? c = some o) → (∃ o, h'.get? e = some o ∧ o.cls = .type "StopIteration") → E (.ref e) { s with heap := h' }) :
    wpAny (model prog w) A (Builtin.«zip.__next__» ⟨[.ref z], []⟩) Q E s := by
  show wpAny _ A (field (.ref z) 2 >>= _) _ E s
  refine wpAny_bind (wpAny_field gz rfl (x := .bool false) rfl ?_)
  show wpAny _ A (field (.ref z) 3 >>= _) _ E s
  refine wpAny_bind (wpAny_field gz rfl (x := .ref u) rfl ?_)
  refine wpAny_bind (wpAny_seqItems gu rfl ?_)
  show wpAny _ A (Builtin.SmallTypes.ownedTupleIsFree (.ref z) >>= _) _ E s
  refine wpAny_bind (wpAny_tupleHeld_zip gz gT fun ha gza sa => ?_)
  simp only [Bool.false_eq_true, ite_false]
  refine wpAny_bind ?_
  rw [← Array.forIn_toList]
  simp only [List.forIn_nil, List.forIn_cons]
  refine wpAny_bind (wpAny_bind (wpAny_holding (M := model prog w) ?_))
  show wpAny _ A (Builtin.SmallTypes.nextOf (.ref j1) >>= _) _ E _
  cases ex : as[m1]? with
  | none =>
    refine wpAny_bind (RZ.nextOf_tuple_end (s := { s with heap := ha }) nh (g1.extBut sa.extBut D.i1z) (ga.extBut sa.extBut D.l1z) ex fun hb e sb he => ?_)
    exact hE hb e (fun c o n1 n2 _ g => sb _ _ n2 (sa.extBut _ _ n1 g)) he
  | some x =>
    have ey : bs[m2]? = none := en.resolve_left fun q => by rw [ex] at q; cases q
    refine wpAny_bind (RZ.nextOf_tuple_item (s := { s with heap := ha }) (g1.extBut sa.extBut D.i1z) (ga.extBut sa.extBut D.l1z) ex fun hb gb1 sb => wpAny_pure ?_)
    refine wpAny_pure ?_
    refine wpAny_bind (wpAny_bind (wpAny_holding (M := model prog w) ?_))
    show wpAny _ A (Builtin.SmallTypes.nextOf (.ref j2) >>= _) _ E _
    refine wpAny_bind (RZ.nextOf_tuple_end (s := { s with heap := hb }) nh ((g2.extBut sa.extBut D.i2z).extBut sb.extBut D.i12.symm) ((gb.extBut sa.extBut D.l2z).extBut sb.extBut D.l2i1) ey fun hc e sc he => ?_)
    exact hE hc e (fun c o n1 n2 n3 g => sc _ _ n3 (sb.extBut _ _ n2 (sa.extBut _ _ n1 g))) he
theorem RZ_item_held {z u t T j1 j2 la lb : Addr} {fl : Bool} {oT : Obj} {m1 m2 : Nat} {as bs : Array Value} {x y : Value} {Q : Option Value → Shared → Prop} (D : ZipApart z u t j1 j2 la lb)
    (gz : IsZipHeld s.heap z u t T fl) (gT : s.heap.get? T = some oT) (gu : IsPair s.heap u (.ref j1) (.ref j2))
    (g1 : s.heap.IsTupleIter j1 la m1) (g2 : s.heap.IsTupleIter j2 lb m2) (ga : s.heap.IsTuple la as) (gb : s.heap.IsTuple lb bs) (ex : as[m1]? = some x) (ey : bs[m2]? = some y)
    (hQ : ∀ h', IsZipHeld h' z u t T true → h'.IsTupleIter j1 la (m1 + 1) → h'.IsTupleIter j2 lb (m2 + 1) → IsPair h' s.heap.objs.size x y → h'.objs.size = s.heap.objs.size + 1 →
      (∀ c o, c ≠ z → c ≠ j1 → c ≠ j2 → s.heap.get? c = some o → h'.get? c = some o) → Q (some (.ref s.heap.objs.size)) { s with heap := h' }) :
    wpAny (model prog w) A (pyNext (.ref z)) Q E s := by
  have ty : s.TypeIs (.ref z) "zip" := ⟨_, gz, rfl⟩
  unfold pyNext
  refine wpAny_bind (wpAny_attempt (wpAny_callSpecial?_slot (name := Str.ofString "__next__") ty F.slot_zip_next (wpAny_call_entry F.slot_zip_next ty F.entry_zip_next ?_ (F.args_zip_next_1 _))))
  exact held_step D gz gT gu g1 g2 ga gb ex ey fun h' b1 b2 b3 b4 b5 b6 => wpAny_pure (hQ h' b1 b2 b3 b4 b5 b6)
theorem RZ_end_held {z u t T j1 j2 la lb : Addr} {fl : Bool} {oT : Obj} {m1 m2 : Nat} {as bs : Array Value} {Q : Option Value → Shared → Prop} (nh : A.handled = none) (D : ZipApart z u t j1 j2 la lb)
    (gz : IsZipHeld s.heap z u t T fl) (gT : s.heap.get? T = some oT) (gu : IsPair s.heap u (.ref j1) (.ref j2))
    (g1 : s.heap.IsTupleIter j1 la m1) (g2 : s.heap.IsTupleIter j2 lb m2) (ga : s.heap.IsTuple la as) (gb : s.heap.IsTuple lb bs) (en : as[m1]? = none ∨ bs[m2]? = none)
    (hQ : ∀ h', (∀ c o, c ≠ z → c ≠ j1 → c ≠ j2 → s.heap.get? c = some o → h'.get? c = some o) → Q none { s with heap := h' }) : wpAny (model prog w) A (pyNext (.ref z)) Q E s := by
  have ty : s.TypeIs (.ref z) "zip" := ⟨_, gz, rfl⟩
  unfold pyNext
  refine wpAny_bind (wpAny_attempt (wpAny_callSpecial?_slot (name := Str.ofString "__next__") ty F.slot_zip_next (wpAny_call_entry F.slot_zip_next ty F.entry_zip_next (held_last nh D gz gT gu g1 g2 ga gb en fun h' e hk he => ?_) (F.args_zip_next_1 _))))
  obtain ⟨oe, he, hc⟩ := he
  exact wpAny_bind (wpAny_isInstance (T := "StopIteration") (b := true) ⟨oe, he, hc⟩ isSubtype_stop (wpAny_pure (hQ _ hk)))
end
/-- the zip z between two turns, the list S being filled -/
structure ZStT (h : Heap) (z TI TO i1 i2 S : Addr) (i : Nat) (a b : Addr) : Prop where
  TI_ : IsPair h TI (.ref i1) (.ref i2)
  h1 : h.IsTupleIter i1 a i
  h2 : h.IsTupleIter i2 b i
  tO : ∃ o, h.get? TO = some o
  zz : (IsZip h z TI TO .none ∧ ∃ x y, IsPair h TO x y) ∨ ∃ (T : Addr) (f : Bool) (oT : Obj), IsZipHeld h z TI TO T f ∧ h.get? T = some oT ∧ T ≠ z ∧ T ≠ i1 ∧ T ≠ i2 ∧ T ≠ S
/-- what has been told of the pairs -/
structure ZLT (H H' : Hp) (xs ys : List V) (S : Addr) (Ts : List Addr) : Prop where
  nS : H S = none
  at_ : H' S = some (.lst (Ts.map V.ref))
  sm : Same H H'
  pr : ∀ (i : Nat) (T : Addr) (x y : V), Ts[i]? = some T → xs[i]? = some x → ys[i]? = some y → H T = none ∧ H' T = some (.tup [x, y])
section
variable {X : Cx} {pins : List (Addr × Obj)} {σ : L2.St} {A : Around} {R : Result → Shared → Prop} {z TI TO i1 i2 a b S : Addr} {xs ys : List V} {H0 : Hp}
theorem zl_loopT (hh : A.in1.handled = none) (D : ZipApart z TI TO i1 i2 a b) (hS : ∀ c ∈ [z, TI, TO, i1, i2], c ≠ S) (hl : xs.length = ys.length) (hb : xs.length ≤ 1000) (qa : SqT X.K H0 a xs) (qb : SqT X.K H0 b ys) :
    ∀ (k j : Nat) (s : Shared) (Hj : Hp) (Ts : List Addr) (acc : Array Value) (c : Nat), xs.length - j = k → j ≤ xs.length → Ts.length = j → Inv X pins σ Hj s → (∀ c ∈ [z, TI, TO, i1, i2], FpOk X pins Hj c) → ZStT s.heap z TI TO i1 i2 S j a b →
      s.heap.get? S = some { cls := .type "list", dict := none, data := .seq acc c, slots := #[] } → Vals (Ts.map V.ref) acc.toList → ZLT H0 Hj xs ys S Ts →
      (∀ s' H' Ts', Inv X pins σ H' s' → Ts'.length = xs.length → ZLT H0 H' xs ys S Ts' → R (.ok (.ret .none)) s') →
      codeAny (model X.prog X.w) A (.builtin "list.extend.loop" ⟨[.ref S, .ref z, .none], []⟩) R s := by
  have hz : ∀ {c : Addr}, c = z ∨ c = TI ∨ c = TO ∨ c = i1 ∨ c = i2 → c ∈ [z, TI, TO, i1, i2] := fun h => by simpa using h
  intro k
  induction k with
  | zero =>
    intro j s Hj Ts acc c hk hj ht I hf st hs hv L hR
    have hjn : j = xs.length := by omega
    subst hjn
    obtain ⟨its, rv, p, _⟩ := I.tuple (sm_seqT L.sm qa)
    obtain ⟨its2, rv2, p2, _⟩ := I.tuple (sm_seqT L.sm qb)
    have l1 := rv.length
    refine codeAny_builtin F.entry_extend_loop ?_
    rw [Around.under_plainId F.plain_extend_loop _]
    show wpAny _ A.in1 (pyNext (.ref z) >>= _) _ _ s
    have he : its.toArray[xs.length]? = none ∨ its2.toArray[xs.length]? = none := .inl (by simp; omega)
    rcases st.zz with ⟨hz', x, y, hTO⟩ | ⟨T, f, oT, hz', hT, r1, r2, r3, r4⟩
    · refine wpAny_bind (RZ.pyNext_zipT_end hh D hz' st.TI_ hTO st.h1 st.h2 p p2 he fun h' hk => ?_)
      refine wpAny_pure (hR _ Hj Ts ?_ ht L)
      exact I.turnedL (t' := s.toks) (ch := [z, TI, TO, i1, i2]) (fun c o hb q => hk c o (fun q' => hb (hz (.inl q'))) (fun q' => hb (hz (.inr (.inr (.inl q'))))) (fun q' => hb (hz (.inr (.inr (.inr (.inl q')))))) (fun q' => hb (hz (.inr (.inr (.inr (.inr q')))))) q) hf
    · refine wpAny_bind (RZ_end_held hh D hz' hT st.TI_ st.h1 st.h2 p p2 he fun h' hk => ?_)
      refine wpAny_pure (hR _ Hj Ts ?_ ht L)
      exact I.turnedL (t' := s.toks) (ch := [z, TI, TO, i1, i2]) (fun c o hb q => hk c o (fun q' => hb (hz (.inl q'))) (fun q' => hb (hz (.inr (.inr (.inr (.inl q')))))) (fun q' => hb (hz (.inr (.inr (.inr (.inr q')))))) q) hf
  | succ k ih =>
    intro j s Hj Ts acc c hk hj ht I hf st hs hv L hR
    have hlt : j < xs.length := by omega
    have hx : xs[j]? = some xs[j] := List.getElem?_eq_getElem hlt
    have hy : ys[j]? = some (ys[j]'(by omega)) := List.getElem?_eq_getElem _
    obtain ⟨its, rv, p, _⟩ := I.tuple (sm_seqT L.sm qa)
    obtain ⟨its2, rv2, p2, _⟩ := I.tuple (sm_seqT L.sm qb)
    obtain ⟨u, hu, ru⟩ := rv.get hx
    obtain ⟨u2, hu2, ru2⟩ := rv2.get hy
    have lacc : acc.size = j := by
      rw [← Array.length_toList, ← hv.length, List.length_map, ht]
    refine codeAny_builtin F.entry_extend_loop ?_
    rw [Around.under_plainId F.plain_extend_loop _]
    show wpAny _ A.in1 (pyNext (.ref z) >>= _) _ _ s
    have lt : ∀ {c : Addr} {o : Obj}, s.heap.get? c = some o → s.heap.objs.size ≠ c := fun e => Nat.ne_of_gt (Heap.lt_size e)
    have go : ∀ h', (∀ c o, c ∉ [z, TI, TO, i1, i2] → s.heap.get? c = some o → h'.get? c = some o) → (∃ o, h'.get? TO = some o) → IsPair h' TI (.ref i1) (.ref i2) → h'.IsTupleIter i1 a (j + 1) → h'.IsTupleIter i2 b (j + 1) → IsPair h' s.heap.objs.size u u2 →
        (∃ (T : Addr) (f : Bool) (oT : Obj), IsZipHeld h' z TI TO T f ∧ h'.get? T = some oT ∧ T ≠ z ∧ T ≠ i1 ∧ T ≠ i2 ∧ T ≠ S) →
        wpAny (model X.prog X.w) A.in1 (updateSeq S (·.push (.ref s.heap.objs.size)) >>= fun _ => again (.builtin "list.extend.loop" ⟨[.ref S, .ref z, .none], []⟩))
          (fun fin s' => match fin with | .done f => R (.ok f) s' | .again c' => c'.quiet = true ∧ codeAny (model X.prog X.w) A c' R s') (fun e s' => R (.error e) s') { s with heap := h' } := by
      intro h' hk' a0 a1 a2 a3 a4 a5
      have SS : S ∉ [z, TI, TO, i1, i2] := fun h => hS S h rfl
      have hs' := hk' S _ SS hs
      have new : ObjOk X.prog X.w (upd Hj s.heap.objs.size (.tup [xs[j], ys[j]'(by omega)])) h' s.heap.objs.size (.tup [xs[j], ys[j]'(by omega)]) :=
        ⟨by show 2 ≤ sizeLine; decide, [u, u2], .cons ru (.cons ru2 .nil), ⟨_, a4, rfl, _, rfl⟩⟩
      have nT : Hj s.heap.objs.size = none := I.hok.fresh (Nat.le_refl _)
      have I1 : Inv X pins σ (upd Hj s.heap.objs.size (.tup [xs[j], ys[j]'(by omega)])) { s with heap := h' } :=
        I.turnedNew (t' := s.toks) (ch := [z, TI, TO, i1, i2]) hk' hf (Nat.le_refl _) new
      have TS : S ≠ s.heap.objs.size := Ne.symm (lt hs)
      have eS : (upd Hj s.heap.objs.size (.tup [xs[j], ys[j]'(by omega)])) S = some (.lst (Ts.map V.ref)) := by
        rw [upd_ne TS]
        exact L.at_
      have hS2 := Heap.get?_update_self (Obj.mapSeq (·.push (Value.ref s.heap.objs.size))) hs' rfl
      have oth : ∀ b u, b ≠ S → h'.get? b = some u → (h'.update S (Obj.mapSeq (·.push (Value.ref s.heap.objs.size)))).get? b = some u := fun b u hb e => (Heap.get?_update_other _ _ (Ne.symm hb)).trans e
      have hv2 : Vals ((Ts ++ [s.heap.objs.size]).map V.ref) (acc.push (.ref s.heap.objs.size)).toList := by
        rw [List.map_append, Array.toList_push]
        exact hv.append (.cons rfl .nil)
      have I2 : Inv X pins σ (upd (upd Hj s.heap.objs.size (.tup [xs[j], ys[j]'(by omega)])) S (.lst ((Ts ++ [s.heap.objs.size]).map V.ref))) { s with heap := h'.update S (Obj.mapSeq (·.push (Value.ref s.heap.objs.size))) } := by
        have hS3 : ∃ n, (h'.update S (Obj.mapSeq (·.push (Value.ref s.heap.objs.size)))).get? S = some { cls := .type "list", data := .seq (acc.push (.ref s.heap.objs.size)).toList.toArray n } := by
          rw [Array.toArray_toList]
          exact ⟨_, hS2⟩
        obtain ⟨n3, hS3⟩ := hS3
        refine I1.write (t' := s.toks) (by rw [eS]; exact True.intro) (.inl rfl) oth ⟨_, hS2⟩ ⟨?_, _, n3, hv2, ?_⟩
        · refine Nat.le_of_lt (small1000 ?_)
          rw [List.length_map, List.length_append, ht]
          show j + 1 ≤ 1000
          omega
        · exact hS3
      refine wpAny_bind (wpAny_updateSeq hs' rfl (wpAny_pure ⟨plainId_quiet F.plain_extend_loop _, ?_⟩) (by rw [lacc]; exact Nat.le_of_lt (small1000 (by omega))) (by show (acc.push _).size ≤ sizeLine + 1; rw [Array.size_push, lacc]; have := small1000 (n := j) (by omega); omega))
      refine ih (j + 1) _ _ (Ts ++ [s.heap.objs.size]) _ _ (by omega) hlt (by rw [List.length_append, ht]; rfl) I2 (fun c hc => ?_) ?_ hS2 hv2 ?_ hR
      · have h1 := hf c hc
        have c1 : c ≠ S := hS c hc
        have c2 : c ≠ s.heap.objs.size := fun q => by
          have h5 : c = z ∨ c = TI ∨ c = TO ∨ c = i1 ∨ c = i2 := by simpa using hc
          rcases h5 with e | e | e | e | e
          · rcases st.zz with ⟨hz', _⟩ | ⟨T, f, oT, hz', _⟩
            · exact lt hz' (e ▸ q).symm
            · exact lt hz' (e ▸ q).symm
          · exact lt st.TI_ (e ▸ q).symm
          · obtain ⟨o, ho⟩ := st.tO
            exact lt ho (e ▸ q).symm
          · obtain ⟨o, ho, _⟩ := st.h1
            exact lt ho (e ▸ q).symm
          · obtain ⟨o, ho, _⟩ := st.h2
            exact lt ho (e ▸ q).symm
        exact ⟨by rw [upd_ne c1, upd_ne c2]; exact h1.1, h1.2⟩
      · obtain ⟨T, f, oT, b1, b2, b3, b4, b5, b6⟩ := a5
        obtain ⟨oO, hO⟩ := a0
        exact ⟨oth _ _ (hS TI (by simp)) a1, a2.at fun o e => oth _ o (hS i1 (by simp)) e, a3.at fun o e => oth _ o (hS i2 (by simp)) e, ⟨oO, oth _ _ (hS TO (by simp)) hO⟩, .inr ⟨T, f, oT, oth _ _ (hS z (by simp)) b1, oth _ _ b6 b2, b3, b4, b5, b6⟩⟩
      · have n0 : H0 s.heap.objs.size = none := by
          cases e : H0 s.heap.objs.size with
          | none => rfl
          | some o =>
            rw [L.sm _ _ e] at nT
            cases nT
        refine ⟨L.nS, upd_same, fun c o e => ?_, fun i T x y e1 e2 e3 => ?_⟩
        · rw [upd_ne (fun q => by rw [q, L.nS] at e; cases e), upd_ne (fun q => by rw [q, n0] at e; cases e)]
          exact L.sm c o e
        · by_cases c : i < Ts.length
          · rw [List.getElem?_append_left c] at e1
            obtain ⟨h1, h2⟩ := L.pr i T x y e1 e2 e3
            refine ⟨h1, ?_⟩
            rw [upd_ne (fun q => by rw [q, L.at_] at h2; cases h2), upd_ne (fun q => by rw [q, nT] at h2; cases h2)]
            exact h2
          · rw [List.getElem?_append_right (by omega)] at e1
            have hi := (List.getElem?_eq_some_iff.mp e1).1
            simp only [List.length_cons, List.length_nil] at hi
            have hi : i - Ts.length = 0 := by omega
            rw [hi] at e1
            cases e1
            have ij : i = j := by omega
            subst ij
            rw [hx] at e2
            rw [hy] at e3
            cases e2
            cases e3
            refine ⟨n0, ?_⟩
            rw [upd_ne (Ne.symm TS), upd_same]
    have n1 : s.heap.objs.size ≠ i1 := let ⟨_, e, _⟩ := st.h1; lt e
    have n2 : s.heap.objs.size ≠ i2 := let ⟨_, e, _⟩ := st.h2; lt e
    rcases st.zz with ⟨hz', x, y, hTO⟩ | ⟨T, f, oT, hz', hT, r1, r2, r3, r4⟩
    · refine wpAny_bind (RZ.pyNext_zipT_item D hz' st.TI_ hTO st.h1 st.h2 p p2 (x := u) (y := u2) (by simpa using hu) (by simpa using hu2) fun h' a1 a2 a3 a4 a5 a6 hk => ?_)
      refine go h' (fun c o hc e => hk c o (fun q' => hc (hz (.inl q'))) (fun q' => hc (hz (.inr (.inr (.inl q'))))) (fun q' => hc (hz (.inr (.inr (.inr (.inl q')))))) (fun q' => hc (hz (.inr (.inr (.inr (.inr q')))))) e) ⟨_, a2⟩ (hk _ _ D.TIz D.TITO D.TIi1 D.TIi2 st.TI_) a3 a4 a5 ⟨s.heap.objs.size, false, _, a1, a5, lt hz', n1, n2, lt hs⟩
    · refine wpAny_bind (RZ_item_held D hz' hT st.TI_ st.h1 st.h2 p p2 (x := u) (y := u2) (by simpa using hu) (by simpa using hu2) fun h' a1 a3 a4 a5 a6 hk => ?_)
      obtain ⟨oO, hO⟩ := st.tO
      refine go h' (fun c o hc e => hk c o (fun q' => hc (hz (.inl q'))) (fun q' => hc (hz (.inr (.inr (.inr (.inl q')))))) (fun q' => hc (hz (.inr (.inr (.inr (.inr q')))))) e) ⟨oO, hk _ _ D.TOz D.TOi1 D.TOi2 hO⟩ (hk _ _ D.TIz D.TIi1 D.TIi2 st.TI_) a3 a4 a5 ⟨T, true, oT, a1, hk _ _ r1 r2 r3 hT, r1, r2, r3, r4⟩
end
section
variable {X : Cx} {pins : List (Addr × Obj)} {σ : L2.St} {H : Hp} {s : Shared} {z TI TO i1 i2 a b : Addr} {xs ys : List V} {E : Value → Shared → Prop} {Q' : Value → Shared → Prop}
/-- list(z), z a zip that was just made -/
theorem call_list_zipT (hc : X.calm = true) (D : ZipApart z TI TO i1 i2 a b) (hl : xs.length = ys.length) (hb : xs.length ≤ 1000) (qa : SqT X.K H a xs) (qb : SqT X.K H b ys) (I : Inv X pins σ H s) (hf : ∀ c ∈ [z, TI, TO, i1, i2], FpOk X pins H c)
    (hzz : IsZip s.heap z TI TO .none) (hTI : IsPair s.heap TI (.ref i1) (.ref i2)) (hTO : ∃ x y, IsPair s.heap TO x y) (h1 : s.heap.IsTupleIter i1 a 0) (h2 : s.heap.IsTupleIter i2 b 0)
    (hQ : ∀ S s' H' Ts, Inv X pins σ H' s' → Ts.length = xs.length → ZLT H H' xs ys S Ts → Q' (.ref S) s') :
    wpAny (model X.prog X.w) X.A (call (.type "list") [.ref z]) Q' E s := by
  have hSz : ∀ c ∈ [z, TI, TO, i1, i2], c ≠ s.heap.objs.size := fun c hc q => by
    have h5 : c = z ∨ c = TI ∨ c = TO ∨ c = i1 ∨ c = i2 := by simpa using hc
    have lt : ∀ {c : Addr} {o : Obj}, s.heap.get? c = some o → c ≠ s.heap.objs.size := fun e => Nat.ne_of_lt (Heap.lt_size e)
    rcases h5 with e | e | e | e | e
    · exact lt hzz (e ▸ q)
    · exact lt hTI (e ▸ q)
    · obtain ⟨x, y, hTO⟩ := hTO
      exact lt hTO (e ▸ q)
    · obtain ⟨o, ho, _⟩ := h1
      exact lt ho (e ▸ q)
    · obtain ⟨o, ho, _⟩ := h2
      exact lt ho (e ▸ q)
  have hSa : s.heap.objs.size ≠ z := Ne.symm (hSz z (by simp))
  refine callType_codes (Q₁ := fun obj s₁ => obj = .ref s.heap.objs.size ∧ s₁ = { s with heap := s.heap.push { cls := .type "list", data := .seq #[] } }) F.called_list (F.typeCall_list_1 _) F.entry_list_init
    (code_list_new _ ⟨rfl, rfl⟩) fun obj s₁ h₁ => ?_
  obtain ⟨rfl, rfl⟩ := h₁
  have hS : (s.heap.push { cls := .type "list", data := .seq #[] }).get? s.heap.objs.size = some { cls := .type "list", data := .seq #[] } := Heap.get?_push_size _ rfl
  refine ⟨⟨_, hS, rfl⟩, F.args_list_init_2 _ _, ?_⟩
  show wpAny _ X.A.in1.in1 (do let old ← Builtin.List.listItems (.ref s.heap.objs.size); Builtin.List.listUpdate (.ref s.heap.objs.size) (fun _ => #[]); letGo old.toList.reverse; Builtin.List.listExtendWith (.ref s.heap.objs.size) (.ref z) .none) _ _ _
  refine wpAny_bind ?_
  unfold Builtin.List.listItems
  refine wpAny_bind (wpAny_seqItems hS rfl (wpAny_pure ?_))
  show wpAny _ X.A.in1.in1 (updateSeq s.heap.objs.size (fun _ => #[]) >>= fun _ => letGo (#[] : Array Value).toList.reverse >>= fun _ => Builtin.List.listExtendWith (.ref s.heap.objs.size) (.ref z) .none) _ _ _
  refine wpAny_bind (wpAny_updateSeq hS rfl ?_)
  have hS2 := Heap.get?_update_self (Obj.mapSeq (fun _ => (#[] : Array Value))) hS rfl
  refine wpAny_bind (wpAny_letGo ?_)
  unfold Builtin.List.listExtendWith
  have up : ∀ (h : Heap) (f : Obj → Obj), (∀ b o, s.heap.get? b = some o → h.get? b = some o) → ∀ b o, s.heap.get? b = some o → (h.update s.heap.objs.size f).get? b = some o := fun h f q b o e =>
    (Heap.get?_update_other _ _ (Ne.symm (Nat.ne_of_lt (Heap.lt_size e)))).trans (q b o e)
  have k1 : ∀ b o, s.heap.get? b = some o → (s.heap.push { cls := .type "list", data := .seq #[] }).get? b = some o := fun b o e => Heap.get?_push_of_some _ e
  have k2 := up _ (Obj.mapSeq (fun _ => (#[] : Array Value))) k1
  refine wpAny_bind (wpAny_typeOf (T := "zip") ⟨_, k2 _ _ hzz, rfl⟩ ?_)
  have e1 : Builtin.List.listSameRef (.ref s.heap.objs.size) (.ref z) = false := by simp [Builtin.List.listSameRef, hSa]
  have e2 : (Value.type "zip" == Value.type "list") = false := by decide
  have e3 : (Value.type "zip" == Value.type "tuple") = false := by decide
  simp only [e1, e2, e3, Bool.or_false, Bool.false_eq_true, if_false]
  refine wpAny_bind (wpAny_pyIter_zip (s := { s with heap := _ }) (k2 _ _ hzz) ?_)
  refine wpAny_bind (wpAny_holding ?_)
  unfold Builtin.List.listLengthHint
  refine wpAny_bind (wpAny_specialOf (T := "zip") ⟨_, k2 _ _ hzz, rfl⟩ zip_no_len ?_)
  show wpAny _ X.A.in1.in1 (specialOf (Value.ref z) (Str.ofString "__length_hint__") >>= _) _ _ _
  refine wpAny_bind (wpAny_specialOf (T := "zip") ⟨_, k2 _ _ hzz, rfl⟩ zip_no_hint ?_)
  refine wpAny_pure ?_
  show wpAny _ X.A.in1.in1 (rule "list.extend.makes-room" >>= fun _ => Builtin.List.listTouch (.ref s.heap.objs.size) >>= fun _ =>
    again (.builtin "list.extend.loop" ⟨[.ref s.heap.objs.size, .ref z, .none], []⟩)) _ _ _
  refine wpAny_bind (wpAny_rule ?_)
  refine wpAny_bind ?_
  show wpAny _ X.A.in1.in1 (updateSeq s.heap.objs.size (·.push .none) >>= fun _ => updateSeq s.heap.objs.size (·.pop)) _ _ _
  refine wpAny_bind (wpAny_updateSeq hS2 rfl ?_)
  have hS3 := Heap.get?_update_self (Obj.mapSeq (·.push Value.none)) hS2 rfl
  refine wpAny_updateSeq (hz := by seq_fits) hS3 rfl ?_
  have hS4 := Heap.get?_update_self (Obj.mapSeq (·.pop)) hS3 rfl
  have k4 := up _ (Obj.mapSeq (·.pop)) (up _ (Obj.mapSeq (·.push Value.none)) k2)
  refine wpAny_pure ⟨plainId_quiet F.plain_extend_loop _, ?_⟩
  have nS : H s.heap.objs.size = none := I.hok.fresh (Nat.le_refl _)
  have I4 := I.laid (a := s.heap.objs.size) (o := .lst ([] : List V)) (t' := s.toks) k4 (Nat.le_refl _) ⟨Nat.zero_le _, [], _, .nil, hS4⟩
  obtain ⟨x0, y0, hTO⟩ := hTO
  refine zl_loopT (H0 := H) (xs := xs) (ys := ys) (a := a) (b := b) (by first | exact I.ok.hd hc | rfl | exact Around.in1_handled (I.ok.hd hc)) D (fun c hc => hSz c hc) hl hb qa qb _ 0 _ _ [] _ _ rfl (Nat.zero_le _) rfl I4 (fun c hc => ⟨by rw [upd_ne (hSz c hc)]; exact (hf c hc).1, (hf c hc).2⟩)
    ⟨k4 _ _ hTI, h1.at fun o e => k4 _ o e, h2.at fun o e => k4 _ o e, ⟨_, k4 _ _ hTO⟩, .inl ⟨k4 _ _ hzz, x0, y0, k4 _ _ hTO⟩⟩ hS4 .nil ⟨nS, upd_same, same_upd nS, fun i T x y e _ _ => by simp at e⟩ fun s' H' Ts' I' ht' L' => ⟨rfl, hQ _ s' H' Ts' I' ht' L'⟩
end
def tListZipT (K : PySem.W.Frag) (ta : L2.TA) : TE := fun σ H Q => ta σ H fun vs H1 => ∃ (a b : Addr) (xs ys : List V), vs = [.ref a, .ref b] ∧ SqT K H1 a xs ∧ SqT K H1 b ys ∧ xs.length = ys.length ∧ xs.length ≤ 1000 ∧ ∀ S Ts H', Ts.length = xs.length → ZLT H1 H' xs ys S Ts → Q (.ref S) H'
/-- list(zip(a, b)) -/
theorem pe_listZipT {X : Cx} {e e2 : Expr} {ta : L2.TA} {p p2 q pos : Pos} (hg : Gl X "list") (hm : X.mg "list" = none) (hg2 : Gl X "zip") (hm2 : X.mg "zip" = none) (ha : PA X [e, e2] ta) (hc : X.calm = true := by rfl)
    (na : starEach [.Call (.Name "zip" p2) [e, e2] [] q] X.env = (false, eval (.Call (.Name "zip" p2) [e, e2] [] q) X.env) :: starEach [] X.env := by rfl)
    (hs : starEach [e, e2] X.env = (false, eval e X.env) :: starEach [e2] X.env := by rfl) (hpl : (backTo q (starEach [e2] X.env)).any (·.1) = false := by rfl) :
    PE X (.Call (.Name "list" p) [.Call (.Name "zip" p2) [e, e2] [] q] [] pos) (tListZipT X.K ta) := by
  refine ⟨fun pins s σ H Q I h => ?_⟩
  refine Call_ (ld_blt I hg hm boot_list ?_)
  refine PyProof.Rows.callWith_type1 (PyProof.Rows.args_cons ?_ na) na rfl
  refine Call_ (ld_blt I hg2 hm2 PyProof.Rows.boot_zip (PyProof.Rows.callWith_type1 (thn (ha.run q pins s σ H _ I h) fun us s1 ⟨vs, H1, I1, r1, q1⟩ => ?_) hs hpl))
  obtain ⟨a, b, xs, ys, ex, hqx, hqy, hl, hb, q1⟩ := q1
  subst ex
  cases r1 with
  | cons r rr =>
    cases rr with
    | cons r' rr =>
      cases rr
      cases r
      cases r'
      obtain ⟨its, rv, p1, _⟩ := I1.tuple hqx
      obtain ⟨its2, rv2, p2, _⟩ := I1.tuple hqy
      have la : a < s1.heap.objs.size := let ⟨_, e, _⟩ := p1; Heap.lt_size e
      have lb : b < s1.heap.objs.size := let ⟨_, e, _⟩ := p2; Heap.lt_size e
      refine RZ.call_zipT p1 p2 fun h' hz hTI hTO h1 h2 hsz hk => PyProof.Rows.args_nil ?_
      have I2 : Inv X pins σ H1 { s1 with heap := h' } := I1.kept (t' := s1.toks) hk
      refine call_list_zipT (s := { s1 with heap := h' }) hc (PySem.W.ktu_apart s1.heap.objs.size a b la lb) hl hb hqx hqy I2 (fun c hcm => ?_) hz hTI ⟨_, _, hTO⟩ h1 h2 fun S s' H' Ts I' ht L => ⟨.ref S, H', I', rfl, q1 S Ts H' ht L⟩
      have e' : c = s1.heap.objs.size + 4 ∨ c = s1.heap.objs.size + 2 ∨ c = s1.heap.objs.size + 3 ∨ c = s1.heap.objs.size ∨ c = s1.heap.objs.size + 1 := by simpa using hcm
      have hle : s1.heap.objs.size ≤ c := by
        rcases e' with z | z | z | z | z
        · rw [z]; exact Nat.le_add_right _ _
        · rw [z]; exact Nat.le_add_right _ _
        · rw [z]; exact Nat.le_add_right _ _
        · rw [z]; exact Nat.le_refl _
        · rw [z]; exact Nat.le_add_right _ _
      exact I1.fpOk hle (I1.hok.fresh hle)
end Nu
namespace Nu
open PySem PySem.Spec PyProof.Rows L2
def feas (lw hg : Nat → Int) (n k : Nat) (c x : Int) : Prop := 0 ≤ c - (sumF lw n - lw k + x) ∧ c - (sumF lw n - lw k + x) ≤ cap lw hg k n
instance {lw hg : Nat → Int} {n k : Nat} {c x : Int} : Decidable (feas lw hg n k c x) := by
  unfold feas
  exact inferInstance
theorem feas_iff {lw hg : Nat → Int} {n k : Nat} {c x : Int} (hk : k < n) (hle : ∀ i, i < n → lw i ≤ hg i) (h1 : sumF lw n ≤ c) (h2 : c ≤ sumF hg n) :
    (lw k ≤ x ∧ x ≤ hg k ∧ feas lw hg n k c x) ↔ bLo (sumF hg n) (some c) (lw k) (hg k) ≤ x ∧ x ≤ bHi (sumF lw n) (some c) (lw k) (hg k) := by
  unfold feas
  rw [cap_eq, if_pos hk]
  have := hle k hk
  show _ ↔ (if hg k - (sumF hg n - c) > lw k then hg k - (sumF hg n - c) else lw k) ≤ x ∧ x ≤ (if lw k + (c - sumF lw n) < hg k then lw k + (c - sumF lw n) else hg k)
  by_cases a1 : hg k - (sumF hg n - c) > lw k
  · rw [if_pos a1]
    by_cases a2 : lw k + (c - sumF lw n) < hg k
    · rw [if_pos a2]
      omega
    · rw [if_neg a2]
      omega
  · rw [if_neg a1]
    by_cases a2 : lw k + (c - sumF lw n) < hg k
    · rw [if_pos a2]
      omega
    · rw [if_neg a2]
      omega
theorem lo_hi {lw hg : Nat → Int} {n k : Nat} {c : Int} (hk : k < n) (hle : ∀ i, i < n → lw i ≤ hg i) (h1 : sumF lw n ≤ c) (h2 : c ≤ sumF hg n) :
    bLo (sumF hg n) (some c) (lw k) (hg k) ≤ bHi (sumF lw n) (some c) (lw k) (hg k) := by
  have hc := cap_nn (lw := lw) (hg := hg) (k := k) (n := n) hle
  rw [cap_eq, if_pos hk] at hc
  have := hle k hk
  show (if hg k - (sumF hg n - c) > lw k then hg k - (sumF hg n - c) else lw k) ≤ (if lw k + (c - sumF lw n) < hg k then lw k + (c - sumF lw n) else hg k)
  by_cases a1 : hg k - (sumF hg n - c) > lw k
  · rw [if_pos a1]
    by_cases a2 : lw k + (c - sumF lw n) < hg k
    · rw [if_pos a2]
      omega
    · rw [if_neg a2]
      omega
  · rw [if_neg a1]
    by_cases a2 : lw k + (c - sumF lw n) < hg k
    · rw [if_pos a2]
      omega
    · rw [if_neg a2]
      omega
theorem rng_filter : ∀ (m : Nat) (a b lo hi : Int), (b + 1 - a).toNat = m → (rng a b).filter (fun x => decide (lo ≤ x ∧ x ≤ hi)) = rng (mx a lo) (mn b hi)
  | 0, a, b, lo, hi, h => by
    rw [rng_nil (by omega), rng_nil]
    · rfl
    · have h1 := (mx_le (x := a) (y := lo) (z := mx a lo)).mp (Int.le_refl _)
      have h2 := (le_mn (x := b) (y := hi) (z := mn b hi)).mp (Int.le_refl _)
      omega
  | m + 1, a, b, lo, hi, h => by
    rw [rng_cons (by omega), List.filter_cons, rng_filter m (a + 1) b lo hi (by omega)]
    have h2 := (le_mn (x := b) (y := hi) (z := mn b hi)).mp (Int.le_refl _)
    by_cases c1 : lo ≤ a
    · have e1 : mx a lo = a := by unfold mx; rw [if_neg (by omega)]
      have e2 : mx (a + 1) lo = a + 1 := by unfold mx; rw [if_neg (by omega)]
      rw [e1, e2]
      by_cases c2 : a ≤ hi
      · rw [if_pos (decide_eq_true ⟨c1, c2⟩), rng_cons (a := a) (le_mn.mpr ⟨by omega, c2⟩)]
      · rw [if_neg (by rw [decide_eq_true_eq]; omega), rng_nil (by omega), rng_nil (by omega)]
    · rw [if_neg (by rw [decide_eq_true_eq]; omega)]
      have e1 : mx a lo = lo := by unfold mx; rw [if_pos (by omega)]
      have e2 : mx (a + 1) lo = lo := by
        unfold mx
        by_cases q : lo > a + 1
        · rw [if_pos q]
        · rw [if_neg q]; omega
      rw [e1, e2]
def ext1 (p : List Int) (vs : List Int) : List (List Int) := vs.map fun v => p ++ [v]
def wAll (lw hg : Nat → Int) : Nat → List (List Int)
  | 0 => [[]]
  | n + 1 => (wAll lw hg n).flatMap fun p => ext1 p (rng (lw n) (hg n))
theorem mem_wAll {lw hg : Nat → Int} : ∀ {n : Nat} {x : List Int}, x ∈ wAll lw hg n ↔ ∃ f : Nat → Int, x = LI f n ∧ ∀ i, i < n → lw i ≤ f i ∧ f i ≤ hg i
  | 0, x => by
    constructor
    · intro h
      have h : x ∈ ([[]] : List (List Int)) := h
      rw [List.mem_singleton.mp h]
      exact ⟨fun _ => 0, rfl, fun i hi => absurd hi (Nat.not_lt_zero _)⟩
    · rintro ⟨f, rfl, _⟩
      exact List.mem_singleton.mpr rfl
  | n + 1, x => by
    show x ∈ (wAll lw hg n).flatMap _ ↔ _
    rw [List.mem_flatMap]
    constructor
    · rintro ⟨p, hp, hx⟩
      obtain ⟨f, rfl, hf⟩ := mem_wAll.mp hp
      obtain ⟨v, hv, rfl⟩ := List.mem_map.mp hx
      refine ⟨fun i => if i = n then v else f i, ?_, fun i hi => ?_⟩
      · rw [LI_succ, LI_congr (f := fun i => if i = n then v else f i) (g := f) fun i hi => if_neg (by omega)]
        show LI f n ++ [v] = LI f n ++ [if n = n then v else f n]
        rw [if_pos rfl]
      · show lw i ≤ (if i = n then v else f i) ∧ (if i = n then v else f i) ≤ hg i
        by_cases c : i = n
        · subst c
          rw [if_pos rfl]
          exact mem_rng.mp hv
        · rw [if_neg c]
          exact hf i (by omega)
    · rintro ⟨f, rfl, hf⟩
      refine ⟨LI f n, mem_wAll.mpr ⟨f, rfl, fun i hi => hf i (by omega)⟩, ?_⟩
      rw [LI_succ]
      exact List.mem_map.mpr ⟨f n, mem_rng.mpr (hf n (by omega)), rfl⟩
def fitC (lw hg : Nat → Int) (n : Nat) (c : Option Int) (j : Nat) (p : List Int) : Bool := match c with
  | none => true
  | some c => decide (p.sum + (sumF lw n - sumF lw j) ≤ c ∧ c ≤ p.sum + (sumF hg n - sumF hg j))
def loN (lw hg : Nat → Int) (n : Nat) (c : Option Int) (p : List Int) (j : Nat) : Int := match c with
  | none => lw j
  | some c => mx (lw j) (c - p.sum - (sumF hg n - sumF hg (j + 1)))
def hiN (lw hg : Nat → Int) (n : Nat) (c : Option Int) (p : List Int) (j : Nat) : Int := match c with
  | none => hg j
  | some c => mn (hg j) (c - p.sum - (sumF lw n - sumF lw (j + 1)))
def okC (c : Option Int) (p : List Int) : Bool := match c with
  | none => true
  | some c => decide (p.sum = c)
def wStart (lw hg : Nat → Int) (n : Nat) (c : Option Int) (j : Nat) : List (List Int) := (wAll lw hg j).filter (fitC lw hg n c j)
theorem filter_map' {α β : Type} (f : α → β) (q : β → Bool) : ∀ l : List α, (l.map f).filter q = (l.filter fun x => q (f x)).map f
  | [] => rfl
  | x :: r => by
    rw [List.map_cons, List.filter_cons, List.filter_cons, filter_map' f q r]
    by_cases h : q (f x) = true
    · rw [if_pos h, if_pos h, List.map_cons]
    · rw [if_neg h, if_neg h]
theorem filter_flat {α β : Type} {r : α → Bool} {q : β → Bool} {g f : α → List β} : ∀ l : List α, (∀ x ∈ l, (f x).filter q = if r x = true then g x else []) → (l.flatMap f).filter q = (l.filter r).flatMap g
  | [], _ => rfl
  | x :: t, h => by
    rw [List.flatMap_cons, List.filter_append, h x List.mem_cons_self, filter_flat t fun y hy => h y (List.mem_cons_of_mem _ hy), List.filter_cons]
    by_cases c : r x = true
    · rw [if_pos c, if_pos c, List.flatMap_cons]
    · rw [if_neg c, if_neg c, List.nil_append]
theorem ext1_filter {lw hg : Nat → Int} {n j : Nat} {c : Option Int} {p : List Int} (hle : lw j ≤ hg j) :
    (ext1 p (rng (lw j) (hg j))).filter (fitC lw hg n c (j + 1)) = if fitC lw hg n c j p = true then ext1 p (rng (loN lw hg n c p j) (hiN lw hg n c p j)) else [] := by
  cases c with
  | none =>
    rw [if_pos (show fitC lw hg n none j p = true from rfl)]
    exact List.filter_eq_self.mpr fun _ _ => rfl
  | some c =>
    have e1 : sumF lw (j + 1) = sumF lw j + lw j := rfl
    have e2 : sumF hg (j + 1) = sumF hg j + hg j := rfl
    unfold ext1
    rw [filter_map']
    have e : (fun v => fitC lw hg n (some c) (j + 1) (p ++ [v])) = fun v => decide (c - p.sum - (sumF hg n - sumF hg (j + 1)) ≤ v ∧ v ≤ c - p.sum - (sumF lw n - sumF lw (j + 1))) := funext fun v => by
      show decide ((p ++ [v]).sum + (sumF lw n - sumF lw (j + 1)) ≤ c ∧ c ≤ (p ++ [v]).sum + (sumF hg n - sumF hg (j + 1))) = _
      rw [sum_snoc]
      exact decide_eq_decide.mpr ⟨fun h => by omega, fun h => by omega⟩
    rw [e, rng_filter _ _ _ _ _ rfl]
    by_cases q : fitC lw hg n (some c) j p = true
    · rw [if_pos q]
      rfl
    · rw [if_neg q]
      have q : ¬ (p.sum + (sumF lw n - sumF lw j) ≤ c ∧ c ≤ p.sum + (sumF hg n - sumF hg j)) := fun z => q (decide_eq_true z)
      rw [rng_nil]
      · rfl
      · have h1 := (mx_le (x := lw j) (y := c - p.sum - (sumF hg n - sumF hg (j + 1))) (z := mx (lw j) (c - p.sum - (sumF hg n - sumF hg (j + 1))))).mp (Int.le_refl _)
        have h2 := (le_mn (x := hg j) (y := c - p.sum - (sumF lw n - sumF lw (j + 1))) (z := mn (hg j) (c - p.sum - (sumF lw n - sumF lw (j + 1))))).mp (Int.le_refl _)
        omega
theorem wStart_succ {lw hg : Nat → Int} {n j : Nat} {c : Option Int} (hle : lw j ≤ hg j) : wStart lw hg n c (j + 1) = (wStart lw hg n c j).flatMap fun p => ext1 p (rng (loN lw hg n c p j) (hiN lw hg n c p j)) := by
  unfold wStart
  exact filter_flat (r := fitC lw hg n c j) _ fun p _ => ext1_filter hle
theorem wStart_zero {lw hg : Nat → Int} {n : Nat} {c : Option Int} (nb : ¬ badC (sumF lw n) (sumF hg n) c) : wStart lw hg n c 0 = [[]] := by
  unfold wStart
  show ([[]] : List (List Int)).filter _ = [[]]
  cases c with
  | none => rfl
  | some c =>
    rw [List.filter_cons, if_pos]
    · rfl
    · refine decide_eq_true ⟨?_, ?_⟩
      · show (0 : Int) + (sumF lw n - 0) ≤ c
        have : ¬ c < sumF lw n := fun z => nb ⟨c, rfl, .inl z⟩
        omega
      · show c ≤ (0 : Int) + (sumF hg n - 0)
        have : ¬ c > sumF hg n := fun z => nb ⟨c, rfl, .inr z⟩
        omega
theorem wStart_end {lw hg : Nat → Int} {n : Nat} {c : Option Int} : wStart lw hg n c n = (wAll lw hg n).filter (okC c) := by
  unfold wStart
  congr 1
  funext p
  cases c with
  | none => rfl
  | some c =>
    show decide (p.sum + (sumF lw n - sumF lw n) ≤ c ∧ c ≤ p.sum + (sumF hg n - sumF hg n)) = decide (p.sum = c)
    exact decide_eq_decide.mpr ⟨fun h => by omega, fun h => by omega⟩
theorem flat_len {α β : Type} {f : α → List β} {b : Nat} : ∀ l : List α, (∀ x ∈ l, (f x).length ≤ b) → (l.flatMap f).length ≤ l.length * b
  | [], _ => by simp
  | x :: t, h => by
    rw [List.flatMap_cons, List.length_append, List.length_cons, Nat.add_mul, Nat.one_mul]
    have h1 := h x List.mem_cons_self
    have h2 := flat_len t fun y hy => h y (List.mem_cons_of_mem _ hy)
    omega
theorem some_sum {lw hg : Nat → Int} : ∀ {n : Nat} {c : Int}, (∀ i, i < n → lw i ≤ hg i) → sumF lw n ≤ c → c ≤ sumF hg n → ∃ f : Nat → Int, (∀ i, i < n → lw i ≤ f i ∧ f i ≤ hg i) ∧ sumF f n = c
  | 0, c, _, h1, h2 => ⟨lw, fun i hi => absurd hi (Nat.not_lt_zero _), by
    have h1 : (0 : Int) ≤ c := h1
    have h2 : c ≤ (0 : Int) := h2
    show (0 : Int) = c
    omega⟩
  | n + 1, c, h, h1, h2 => by
    have h1 : sumF lw n + lw n ≤ c := h1
    have h2 : c ≤ sumF hg n + hg n := h2
    have hn := h n (by omega)
    have hs := sumF_le (n := n) fun i hi => h i (by omega)
    obtain ⟨v, v1, v2, v3, v4⟩ : ∃ v, lw n ≤ v ∧ v ≤ hg n ∧ sumF lw n ≤ c - v ∧ c - v ≤ sumF hg n := by
      by_cases q : c - sumF lw n ≤ hg n
      · exact ⟨c - sumF lw n, by omega, q, by omega, by omega⟩
      · exact ⟨hg n, hn, Int.le_refl _, by omega, by omega⟩
    obtain ⟨f, f1, f2⟩ := some_sum (n := n) (c := c - v) (fun i hi => h i (by omega)) v3 v4
    refine ⟨fun i => if i = n then v else f i, fun i hi => ?_, ?_⟩
    · show lw i ≤ (if i = n then v else f i) ∧ (if i = n then v else f i) ≤ hg i
      by_cases q : i = n
      · subst q
        rw [if_pos rfl]
        exact ⟨v1, v2⟩
      · rw [if_neg q]
        exact f1 i (by omega)
    · show sumF (fun i => if i = n then v else f i) n + (if n = n then v else f n) = c
      rw [if_pos rfl, sumF_congr (g := f) fun i hi => if_neg (by omega), f2]
      omega
theorem at_worlds {lw hg : Nat → Int} {n k : Nat} {c : Option Int} (hk : k < n) (hle : ∀ i, i < n → lw i ≤ hg i) (nb : ¬ badC (sumF lw n) (sumF hg n) c) (x : Int) :
    (∃ p, p ∈ (wAll lw hg n).filter (okC c) ∧ p[k]? = some x) ↔ bLo (sumF hg n) c (lw k) (hg k) ≤ x ∧ x ≤ bHi (sumF lw n) c (lw k) (hg k) := by
  cases c with
  | none =>
    show _ ↔ lw k ≤ x ∧ x ≤ hg k
    constructor
    · rintro ⟨p, hp, e⟩
      obtain ⟨f, rfl, hf⟩ := mem_wAll.mp (List.mem_filter.mp hp).1
      rw [LI_at _ hk] at e
      cases e
      exact hf k hk
    · rintro ⟨h1, h2⟩
      refine ⟨LI (fun i => if i = k then x else lw i) n, List.mem_filter.mpr ⟨mem_wAll.mpr ⟨_, rfl, fun i hi => ?_⟩, rfl⟩, ?_⟩
      · show lw i ≤ (if i = k then x else lw i) ∧ (if i = k then x else lw i) ≤ hg i
        by_cases q : i = k
        · subst q
          rw [if_pos rfl]
          exact ⟨h1, h2⟩
        · rw [if_neg q]
          exact ⟨Int.le_refl _, hle i hi⟩
      · rw [LI_at _ hk]
        show some (if k = k then x else lw k) = some x
        rw [if_pos rfl]
  | some c =>
    have hc1 : sumF lw n ≤ c := Classical.byContradiction fun z => nb ⟨c, rfl, .inl (by omega)⟩
    have hc2 : c ≤ sumF hg n := Classical.byContradiction fun z => nb ⟨c, rfl, .inr (by omega)⟩
    rw [← feas_iff hk hle hc1 hc2]
    constructor
    · rintro ⟨p, hp, e⟩
      obtain ⟨hp, ho⟩ := List.mem_filter.mp hp
      obtain ⟨f, rfl, hf⟩ := mem_wAll.mp hp
      have ho : (LI f n).sum = c := of_decide_eq_true ho
      rw [LI_sum] at ho
      rw [LI_at _ hk] at e
      cases e
      have h1 := sumF_le (lw := fun i => if i = k then f k else lw i) (hg := f) (n := n) fun i hi => by
        show (if i = k then f k else lw i) ≤ f i
        by_cases q : i = k
        · subst q
          rw [if_pos rfl]
          exact Int.le_refl _
        · rw [if_neg q]
          exact (hf i hi).1
      have h2 := sumF_le (lw := f) (hg := fun i => if i = k then f k else hg i) (n := n) fun i hi => by
        show f i ≤ (if i = k then f k else hg i)
        by_cases q : i = k
        · subst q
          rw [if_pos rfl]
          exact Int.le_refl _
        · rw [if_neg q]
          exact (hf i hi).2
      rw [sumF_set, if_pos hk] at h1 h2
      refine ⟨(hf k hk).1, (hf k hk).2, ?_⟩
      unfold feas
      rw [cap_eq, if_pos hk]
      omega
    · rintro ⟨h1, h2, h3⟩
      unfold feas at h3
      rw [cap_eq, if_pos hk] at h3
      obtain ⟨f, f1, f2⟩ := some_sum (lw := fun i => if i = k then x else lw i) (hg := fun i => if i = k then x else hg i) (n := n) (c := c) (fun i hi => by
        show (if i = k then x else lw i) ≤ (if i = k then x else hg i)
        by_cases q : i = k
        · rw [if_pos q, if_pos q]
          exact Int.le_refl _
        · rw [if_neg q, if_neg q]
          exact hle i hi) (by rw [sumF_set, if_pos hk]; omega) (by rw [sumF_set, if_pos hk]; omega)
      have fk := f1 k hk
      have fk1 : (if k = k then x else lw k) ≤ f k := fk.1
      have fk2 : f k ≤ (if k = k then x else hg k) := fk.2
      rw [if_pos rfl] at fk1 fk2
      refine ⟨LI f n, List.mem_filter.mpr ⟨mem_wAll.mpr ⟨f, rfl, fun i hi => ?_⟩, ?_⟩, ?_⟩
      · by_cases q : i = k
        · subst q
          omega
        · have := f1 i hi
          have g1 : (if i = k then x else lw i) ≤ f i := this.1
          have g2 : f i ≤ (if i = k then x else hg i) := this.2
          rw [if_neg q] at g1 g2
          exact ⟨g1, g2⟩
      · show decide ((LI f n).sum = c) = true
        rw [LI_sum, f2]
        exact decide_eq_true rfl
      · rw [LI_at _ hk, show f k = x by omega]
theorem no_worlds {lw hg : Nat → Int} {n : Nat} {c : Option Int} (hle : ∀ i, i < n → lw i ≤ hg i) : (wAll lw hg n).filter (okC c) = [] ↔ badC (sumF lw n) (sumF hg n) c := by
  constructor
  · intro h
    refine Classical.byContradiction fun nb => ?_
    have none_ : ∀ p, p ∉ (wAll lw hg n).filter (okC c) := fun p z => by
      rw [h] at z
      cases z
    cases c with
    | none => exact none_ (LI lw n) (List.mem_filter.mpr ⟨mem_wAll.mpr ⟨lw, rfl, fun i hi => ⟨Int.le_refl _, hle i hi⟩⟩, rfl⟩)
    | some c =>
      obtain ⟨f, f1, f2⟩ := some_sum (lw := lw) (hg := hg) (n := n) (c := c) hle (Classical.byContradiction fun z => nb ⟨c, rfl, .inl (by omega)⟩) (Classical.byContradiction fun z => nb ⟨c, rfl, .inr (by omega)⟩)
      refine none_ (LI f n) (List.mem_filter.mpr ⟨mem_wAll.mpr ⟨f, rfl, f1⟩, ?_⟩)
      show decide ((LI f n).sum = c) = true
      rw [LI_sum, f2]
      exact decide_eq_true rfl
  · rintro ⟨c, rfl, h⟩
    refine List.filter_eq_nil_iff.mpr fun p hp z => ?_
    obtain ⟨f, rfl, hf⟩ := mem_wAll.mp hp
    have z : (LI f n).sum = c := of_decide_eq_true z
    rw [LI_sum] at z
    have h1 := sumF_le (lw := lw) (hg := f) (n := n) fun i hi => (hf i hi).1
    have h2 := sumF_le (lw := f) (hg := hg) (n := n) fun i hi => (hf i hi).2
    omega
end Nu
namespace Nu
open PySem PySem.Spec PyProof.Rows L2
/-! ### the worlds of a box -/
def tlF (lw hg : Nat → Int) (n : Nat) (c : Option Int) : Nat → Int := fun i => bLo (sumF hg n) c (lw i) (hg i)
def thF (lw hg : Nat → Int) (n : Nat) (c : Option Int) : Nat → Int := fun i => bHi (sumF lw n) c (lw i) (hg i)
def yLo (lw : Nat → Int) (k : Nat) (m : Int) : Nat → Int := fun i => if i = k then m else lw i
def Wd (lw hg : Nat → Int) (n : Nat) (c : Option Int) (f : Nat → Int) : Prop := (∀ i, i < n → lw i ≤ f i ∧ f i ≤ hg i) ∧ ∀ x, c = some x → sumF f n = x
theorem sumF_mono {f g : Nat → Int} : ∀ {n : Nat}, (∀ i, i < n → f i ≤ g i) → sumF f n ≤ sumF g n
  | 0, _ => Int.le_refl _
  | n + 1, h => by
    have h1 := sumF_mono (n := n) fun i hi => h i (by omega)
    have h2 := h n (by omega)
    show sumF f n + f n ≤ sumF g n + g n
    omega
theorem Wd.le {lw hg f : Nat → Int} {n : Nat} {c : Option Int} (h : Wd lw hg n c f) : ∀ i, i < n → lw i ≤ hg i := fun i hi => Int.le_trans (h.1 i hi).1 (h.1 i hi).2
theorem Wd.nb {lw hg f : Nat → Int} {n : Nat} {c : Option Int} (h : Wd lw hg n c f) : ¬ badC (sumF lw n) (sumF hg n) c := by
  rintro ⟨x, e, b⟩
  have h1 := h.2 x e
  have h2 := sumF_mono fun i hi => (h.1 i hi).1
  have h3 := sumF_mono fun i hi => (h.1 i hi).2
  omega
theorem Wd.mem {lw hg : Nat → Int} {n : Nat} {c : Option Int} {x : List Int} : x ∈ (wAll lw hg n).filter (okC c) ↔ ∃ f, x = LI f n ∧ Wd lw hg n c f := by
  rw [List.mem_filter, mem_wAll]
  constructor
  · rintro ⟨⟨f, rfl, hf⟩, hc⟩
    refine ⟨f, rfl, hf, fun y e => ?_⟩
    subst e
    unfold okC at hc
    have := of_decide_eq_true hc
    rw [LI_sum] at this
    exact this
  · rintro ⟨f, rfl, hf, hc⟩
    refine ⟨⟨f, rfl, hf⟩, ?_⟩
    cases c with
    | none => rfl
    | some y =>
      unfold okC
      rw [LI_sum]
      exact decide_eq_true (hc y rfl)
theorem tight_iff {lw hg : Nat → Int} {n k : Nat} {c : Option Int} (hk : k < n) (hle : ∀ i, i < n → lw i ≤ hg i) (nb : ¬ badC (sumF lw n) (sumF hg n) c) (x : Int) :
    (∃ f, Wd lw hg n c f ∧ f k = x) ↔ tlF lw hg n c k ≤ x ∧ x ≤ thF lw hg n c k := by
  refine Iff.trans ?_ (at_worlds hk hle nb x)
  constructor
  · rintro ⟨f, hf, e⟩
    exact ⟨LI f n, Wd.mem.mpr ⟨f, rfl, hf⟩, by rw [LI_at _ hk, e]⟩
  · rintro ⟨p, hp, e⟩
    obtain ⟨f, rfl, hf⟩ := Wd.mem.mp hp
    rw [LI_at _ hk] at e
    exact ⟨f, hf, Option.some.inj e⟩
theorem has_world {lw hg : Nat → Int} {n : Nat} {c : Option Int} (hle : ∀ i, i < n → lw i ≤ hg i) (nb : ¬ badC (sumF lw n) (sumF hg n) c) : ∃ f, Wd lw hg n c f := by
  cases c with
  | none => exact ⟨lw, fun i hi => ⟨Int.le_refl _, hle i hi⟩, fun x e => by cases e⟩
  | some c =>
    obtain ⟨f, h1, h2⟩ := some_sum (lw := lw) (hg := hg) (n := n) (c := c) hle (by
      by_cases q : c < sumF lw n
      · exact absurd ⟨c, rfl, .inl q⟩ nb
      · omega) (by
      by_cases q : c > sumF hg n
      · exact absurd ⟨c, rfl, .inr q⟩ nb
      · omega)
    exact ⟨f, h1, fun x e => by cases e; exact h2⟩
theorem Wd.tight {lw hg f : Nat → Int} {n : Nat} {c : Option Int} (h : Wd lw hg n c f) : Wd (tlF lw hg n c) (thF lw hg n c) n c f :=
  ⟨fun i hi => (tight_iff hi h.le h.nb (f i)).mp ⟨f, h, rfl⟩, h.2⟩
theorem tl_ge {lw hg : Nat → Int} {n : Nat} {c : Option Int} (i : Nat) : lw i ≤ tlF lw hg n c i := by
  unfold tlF bLo
  cases c with
  | none => exact Int.le_refl _
  | some c =>
    dsimp only
    split <;> omega
theorem th_le {lw hg : Nat → Int} {n : Nat} {c : Option Int} (i : Nat) : thF lw hg n c i ≤ hg i := by
  unfold thF bHi
  cases c with
  | none => exact Int.le_refl _
  | some c =>
    dsimp only
    split <;> omega
theorem Wd.loose {lw hg f : Nat → Int} {n : Nat} {c : Option Int} (h : Wd (tlF lw hg n c) (thF lw hg n c) n c f) : Wd lw hg n c f :=
  ⟨fun i hi => ⟨Int.le_trans (tl_ge i) (h.1 i hi).1, Int.le_trans (h.1 i hi).2 (th_le i)⟩, h.2⟩
theorem Wd.tight_iff' {lw hg f : Nat → Int} {n : Nat} {c : Option Int} : Wd (tlF lw hg n c) (thF lw hg n c) n c f ↔ Wd lw hg n c f := ⟨Wd.loose, Wd.tight⟩
theorem tl_le_th {lw hg : Nat → Int} {n : Nat} {c : Option Int} (hle : ∀ i, i < n → lw i ≤ hg i) (nb : ¬ badC (sumF lw n) (sumF hg n) c) : ∀ i, i < n → tlF lw hg n c i ≤ thF lw hg n c i := fun i hi => by
  obtain ⟨f, hf⟩ := has_world hle nb
  have := (tight_iff hi hle nb (f i)).mp ⟨f, hf, rfl⟩
  omega
/-- boxes of the same worlds have the same tight boxes -/
theorem tight_ext {lw hg lw' hg' : Nat → Int} {n : Nat} {c : Option Int} (hle : ∀ i, i < n → lw i ≤ hg i) (nb : ¬ badC (sumF lw n) (sumF hg n) c) (hle' : ∀ i, i < n → lw' i ≤ hg' i) (nb' : ¬ badC (sumF lw' n) (sumF hg' n) c)
    (h : ∀ f, Wd lw hg n c f ↔ Wd lw' hg' n c f) : ∀ i, i < n → tlF lw hg n c i = tlF lw' hg' n c i ∧ thF lw hg n c i = thF lw' hg' n c i := fun i hi => by
  have e : ∀ x, (tlF lw hg n c i ≤ x ∧ x ≤ thF lw hg n c i) ↔ (tlF lw' hg' n c i ≤ x ∧ x ≤ thF lw' hg' n c i) := fun x => by
    rw [← tight_iff hi hle nb, ← tight_iff hi hle' nb']
    exact exists_congr fun f => and_congr_left fun _ => h f
  have a1 := tl_le_th hle nb i hi
  have a2 := tl_le_th hle' nb' i hi
  have b1 := e (tlF lw hg n c i)
  have b2 := e (thF lw hg n c i)
  have b3 := e (tlF lw' hg' n c i)
  have b4 := e (thF lw' hg' n c i)
  omega
theorem Wd.yes {lw hg f : Nat → Int} {n k : Nat} {m : Int} {c : Option Int} (hk : k < n) (hm : lw k ≤ m) : Wd (yLo lw k m) hg n c f ↔ Wd lw hg n c f ∧ m ≤ f k := by
  unfold Wd yLo
  constructor
  · rintro ⟨h1, h2⟩
    refine ⟨⟨fun i hi => ?_, h2⟩, ?_⟩
    · have := h1 i hi
      by_cases e : i = k
      · subst e
        rw [if_pos rfl] at this
        omega
      · rw [if_neg e] at this
        exact this
    · have := h1 k hk
      rw [if_pos rfl] at this
      exact this.1
  · rintro ⟨⟨h1, h2⟩, h3⟩
    refine ⟨fun i hi => ?_, h2⟩
    have := h1 i hi
    by_cases e : i = k
    · subst e
      rw [if_pos rfl]
      omega
    · rw [if_neg e]
      exact this
theorem Wd.no {lw hg f : Nat → Int} {n k : Nat} {m : Int} {c : Option Int} (hk : k < n) (hm : m - 1 ≤ hg k) : Wd lw (yLo hg k (m - 1)) n c f ↔ Wd lw hg n c f ∧ f k < m := by
  unfold Wd yLo
  constructor
  · rintro ⟨h1, h2⟩
    refine ⟨⟨fun i hi => ?_, h2⟩, ?_⟩
    · have := h1 i hi
      by_cases e : i = k
      · subst e
        rw [if_pos rfl] at this
        omega
      · rw [if_neg e] at this
        exact this
    · have := h1 k hk
      rw [if_pos rfl] at this
      omega
  · rintro ⟨⟨h1, h2⟩, h3⟩
    refine ⟨fun i hi => ?_, h2⟩
    have := h1 i hi
    by_cases e : i = k
    · subst e
      rw [if_pos rfl]
      omega
    · rw [if_neg e]
      exact this
/-- a box that is tight -/
structure Tg (lw hg : Nat → Int) (n : Nat) (c : Option Int) : Prop where
  le : ∀ i, i < n → lw i ≤ hg i
  nb : ¬ badC (sumF lw n) (sumF hg n) c
  tl : ∀ i, i < n → tlF lw hg n c i = lw i
  th : ∀ i, i < n → thF lw hg n c i = hg i
theorem Tg.of {lw hg : Nat → Int} {n : Nat} {c : Option Int} (hle : ∀ i, i < n → lw i ≤ hg i) (nb : ¬ badC (sumF lw n) (sumF hg n) c) : Tg (tlF lw hg n c) (thF lw hg n c) n c := by
  obtain ⟨f, hf⟩ := has_world hle nb
  have h1 := tl_le_th hle nb
  have h2 := hf.tight.nb
  have e := tight_ext h1 h2 hle nb fun f => Wd.tight_iff'
  exact ⟨h1, h2, fun i hi => (e i hi).1, fun i hi => (e i hi).2⟩
/-- each number of a place of a tight box is that of a world -/
theorem Tg.at_ {lw hg : Nat → Int} {n : Nat} {c : Option Int} (T : Tg lw hg n c) {k : Nat} (hk : k < n) (x : Int) : (∃ f, Wd lw hg n c f ∧ f k = x) ↔ lw k ≤ x ∧ x ≤ hg k := by
  rw [tight_iff hk T.le T.nb, T.tl k hk, T.th k hk]
theorem Tg.yes {lw hg : Nat → Int} {n : Nat} {c : Option Int} (T : Tg lw hg n c) {k : Nat} (hk : k < n) {m : Int} (h1 : lw k < m) (h2 : m ≤ hg k) : (∀ i, i < n → yLo lw k m i ≤ hg i) ∧ ¬ badC (sumF (yLo lw k m) n) (sumF hg n) c := by
  obtain ⟨f, hf, e⟩ := (T.at_ hk m).mpr ⟨by omega, h2⟩
  have := (Wd.yes (c := c) (f := f) (hg := hg) hk (show lw k ≤ m by omega)).mpr ⟨hf, by omega⟩
  exact ⟨this.le, this.nb⟩
theorem Tg.no {lw hg : Nat → Int} {n : Nat} {c : Option Int} (T : Tg lw hg n c) {k : Nat} (hk : k < n) {m : Int} (h1 : lw k < m) (h2 : m ≤ hg k) : (∀ i, i < n → lw i ≤ yLo hg k (m - 1) i) ∧ ¬ badC (sumF lw n) (sumF (yLo hg k (m - 1)) n) c := by
  obtain ⟨f, hf, e⟩ := (T.at_ hk (m - 1)).mpr ⟨by omega, by omega⟩
  have := (Wd.no (c := c) (f := f) (lw := lw) hk (show m - 1 ≤ hg k by omega)).mpr ⟨hf, by omega⟩
  exact ⟨this.le, this.nb⟩
end Nu
namespace Nu
open PySem PySem.Spec PyProof.Rows L2
theorem walk_zipT {K : PySem.W.Frag} {a b : Addr} {xs ys : List V} {n : Nat} (hn : n = min xs.length ys.length) : Walk (RZ.ItzT K a b) n (fun H => SqT K H a xs ∧ SqT K H b ys) (YPair (fun i => xs[i]?) (fun i => ys[i]?)) := by
  constructor
  · intro i H hi q
    have a1 : i < xs.length := by omega
    have a2 : i < ys.length := by omega
    exact ⟨xs, ys, _, _, q.1, q.2, List.getElem?_eq_getElem a1, List.getElem?_eq_getElem a2⟩
  · intro H q
    exact ⟨xs, ys, q.1, q.2, by omega⟩
  · rintro i H v H' hi q ⟨T, x, z, e1, e2, e3, e4, e5⟩
    exact ⟨T, x, z, e1, e2, e3, e4 xs q.1, e5 ys q.2⟩
section
variable {P : Program} {w : World} {K : PySem.W.Frag} {mg : Str → Option Value} {base : Heap} {a : Ad} {fd : Fd}
def spCheckT (a : Ad) : Sp := fun vs H Q E => ∃ (p q : Addr) (ls hs : List Int) (c : Option Int), vs = [.ref p, .ref q, cV c] ∧ H p = some (.tup (ls.map V.int)) ∧ H q = some (.tup (hs.map V.int)) ∧ cOk c ∧ (badC ls.sum hs.sum c → E (.ref a.NoWorld) none H) ∧ (¬ badC ls.sum hs.sum c → Q .non H)
theorem ok_check_total (T : Txt K mg a fd) : FnOk P w K mg base (L2.CX P w) 1 a.check_total fd.check_total ["lows", "highs", "total"] (spCheckT a) := by
  refine T.F_check_total.okX sc_check_total (fun vs H Q E h => ?_) (fun cdv A outer s H vs Q E hr h => ?_)
  · obtain ⟨p, q, ls, hs, c, rfl, _⟩ := h
    rfl
  · obtain ⟨p, q, ls, hs, c, rfl, hp, hq, ok, k1, k2⟩ := h
    refine ⟨_, (pss_one (ps_if (PW.pt (pw_and (pt_cmpR op_notN (pv 2) pe_non (nomark _)) (pw_and1 (PW.pt (pw_or (pt_cmpR op_lt (pv 2) (pe_callB (cr_sumT rfl) (by rfl) T.n_sum (by decide +kernel) (pa_cons (pv 0) pa_nil)) (nomark _)) (pw_or1 (pt_cmpR op_gt (pv 2) (pe_callB (cr_sumT rfl) (by rfl) T.n_sum (by decide +kernel) (pa_cons (pv 1) pa_nil)) (nomark _)))))))) (pss_one (ps_raise rfl takesU (pmk_ownA PySem.F.excBase_ValueError T.x_NoWorld.x T.x_NoWorld.g T.x_NoWorld.k (raises_own T.x_NoWorld.b T.x_NoWorld.t) (by rfl) (pa_cons (pe_joined (.cons pe_str (.cons (pe_fmt (pv 2)) PJ.nil))) pa_nil)))) pss_nil)), ?_⟩
    cases c with
    | none =>
      refine ⟨_, rfl, rfl, _, rfl, iteF (iteF (k2 ?_))⟩
      rintro ⟨x, e, _⟩
      cases e
    | some c =>
      have hc := ok c rfl
      refine ⟨_, rfl, rfl, _, rfl, iteT ?_⟩
      refine ⟨_, rfl, _, rfl, p, ls, rfl, SqT.of hp, _, _, rfl, rfl, _, rfl, ?_⟩
      by_cases c1 : c < ls.sum
      · rw [decide_eq_true c1]
        refine iteT (iteT ?_)
        exact js_s (b := 0) (Nat.le_refl _) (by decide +kernel) (by omega) fun _ ha => js_f rfl hc ha (by omega) fun _ _ => ⟨one_le _, k1 ⟨c, rfl, .inl c1⟩⟩
      · rw [decide_eq_false c1]
        refine iteF ?_
        refine ⟨_, rfl, _, rfl, q, hs, rfl, SqT.of hq, _, _, rfl, rfl, _, rfl, ?_⟩
        by_cases c2 : c > hs.sum
        · rw [decide_eq_true c2]
          refine iteT ?_
          exact js_s (b := 0) (Nat.le_refl _) (by decide +kernel) (by omega) fun _ ha => js_f rfl hc ha (by omega) fun _ _ => ⟨one_le _, k1 ⟨c, rfl, .inr c2⟩⟩
        · rw [decide_eq_false c2]
          refine iteF (k2 ?_)
          rintro ⟨x, e, h⟩
          cases e
          exact h.elim c1 c2
def spNarrowed (a : Ad) : Sp := fun vs H Q E => ∃ (p q : Addr) (lw hg : Nat → Int) (n : Nat) (c : Option Int), vs = [.ref p, .ref q, cV c] ∧ H p = some (.tup ((LI lw n).map V.int)) ∧ H q = some (.tup ((LI hg n).map V.int)) ∧ n ≤ 1000 ∧ cOk c ∧ (badC (sumF lw n) (sumF hg n) c → E (.ref a.NoWorld) none H) ∧
  (¬ badC (sumF lw n) (sumF hg n) c → ∀ r ts H', Same H H' → H r = none → H' r = some (.lst (ts.map V.ref)) → TA H' ts n (fun i => [.int (bLo (sumF hg n) c (lw i) (hg i)), .int (bHi (sumF lw n) c (lw i) (hg i))]) → Q (.ref r) H')
theorem ok_narrowed (T : Txt K mg a fd) : FnOk P w K mg base (L2.CX P w) 2 a.narrowed fd.narrowed ["lows", "highs", "total"] (spNarrowed a) := by
  have G_check_total := ok_check_total (P := P) (w := w) (base := base) T
  refine T.F_narrowed.okX sc_narrowed (fun vs H Q E h => ?_) (fun cdv A outer s H vs Q E hr h => ?_)
  · obtain ⟨p, q, lw, hg, n, c, rfl, _⟩ := h
    rfl
  · obtain ⟨p, q, lw, hg, n, c, rfl, hp, hq, hn, ok, k1, k2⟩ := h
    refine ⟨_, (pss_cons (ps_expr (pe_call G_check_total (hr.mono (by decide)) (by rfl) T.g_check_total T.F_check_total.kp T.b_check_total .nil passU (pa_cons (pv 0) (pa_cons (pv 1) (pa_cons (pv 2) pa_nil)))))
    (pss_cons (ps_if (pt_cmpR op_isN (pv 2) pe_non (nomark _)) (pss_one (ps_ret (pe_listZipT (by rfl) T.n_list (by rfl) T.n_zip (pa_cons (pv 0) (pa_cons (pv 1) pa_nil))))) pss_nil)
    (pss_cons (ps_set (i := 3) sc_narrowed.nd rfl (Or.inr rfl) (pe_op op_sub (pv 2) (pe_callB (cr_sumT rfl) (by rfl) T.n_sum (by decide +kernel) (pa_cons (pv 0) pa_nil))))
    (pss_cons (ps_set (i := 4) sc_narrowed.nd rfl (Or.inr rfl) (pe_op op_sub (pe_callB (cr_sumT rfl) (by rfl) T.n_sum (by decide +kernel) (pa_cons (pv 1) pa_nil)) (pv 2)))
    (pss_one (ps_ret (pe_lc (own := [("low", 5), ("high", 6)]) (g := (gTup K 2 (gCons (gName 5) (gCons (gName 6) gNil)))) (by rfl) sc_narrowed.nd (RZ.pi_zipA (by rfl) T.n_zip (pa_cons (pv 0) (pa_cons (pv 1) pa_nil))) (blkOk_by (own := [("low", 5), ("high", 6)]) (N := ["lows", "highs", "total", "above", "below", "low", "high"]) (sc := defScope s_narrowed) (by decide +kernel)) (fun _ _ _ _ _ => pg_tupK (K := K) rfl (by rfl) (pgs_cons (pg_name (i := 5) sc_narrowed.nd rfl (Or.inl rfl)) (pgs_cons (pg_name (i := 6) sc_narrowed.nd rfl (Or.inl rfl)) pgs_nil))) (fun _ _ _ _ _ => pts_nil) (fun _ _ _ _ _ => (pe_tup (pa_cons (pe_callB (call_max2 rfl) (by rfl) T.n_max (by decide +kernel) (pa_cons (pv 5) (pa_cons (pe_op op_sub (pv 6) (pv 4)) pa_nil))) (pa_cons (pe_callB (call_min2 rfl) (by rfl) T.n_min (by decide +kernel) (pa_cons (pv 6) (pa_cons (pe_op op_add (pv 5) (pv 3)) pa_nil))) pa_nil))))))))))), ?_⟩
    rw [← LI_sum, ← LI_sum] at k1 k2
    refine ⟨_, rfl, _, rfl, _, rfl, p, q, LI lw n, LI hg n, c, rfl, hp, hq, ok, k1, fun nb => ?_⟩
    have k2 := k2 nb
    cases c with
    | none =>
      refine ⟨_, rfl, rfl, _, rfl, iteT ?_⟩
      refine ⟨_, rfl, _, rfl, p, q, _, _, rfl, SqT.of hp, SqT.of hq, by rw [List.length_map, List.length_map, LI_len, LI_len], by rw [List.length_map, LI_len]; exact hn, fun S Ts H' ht Z => ?_⟩
      rw [List.length_map, LI_len] at ht
      refine k2 S Ts H' Z.sm Z.nS Z.at_ ⟨ht, fun i t e => ?_⟩
      have hi := (List.getElem?_eq_some_iff.mp e).1
      rw [ht] at hi
      exact (Z.pr i t _ _ e (by rw [List.getElem?_map, LI_at _ hi]; rfl) (by rw [List.getElem?_map, LI_at _ hi]; rfl)).2
    | some c =>
      refine ⟨_, rfl, rfl, _, rfl, iteF ?_⟩
      refine ⟨_, rfl, _, rfl, p, _, rfl, SqT.of hp, _, _, rfl, rfl, ?_⟩
      refine ⟨_, rfl, q, _, rfl, SqT.of hq, _, rfl, _, _, rfl, rfl, ?_⟩
      refine ⟨_, rfl, _, rfl, p, q, _, _, rfl, .inr ⟨SqT.of hp, SqT.of hq, fun D nD => ?_⟩⟩
      refine lc_it (walk_zipT (n := n) (by rw [List.length_map, List.length_map, LI_len, LI_len]; omega)) (fun j H' => Same H H' ∧ ∃ ts : List Addr, H' D = some (.lst (ts.map V.ref)) ∧ TA H' ts j (fun i => [.int (bLo (LI hg n).sum (some c) (lw i) (hg i)), .int (bHi (LI lw n).sum (some c) (lw i) (hg i))]))
        ⟨same_upd nD, [], upd_same, TA.nil _ _⟩ (fun j H' _ ⟨s2, _⟩ => ⟨SqT.of (s2 _ _ hp), SqT.of (s2 _ _ hq)⟩) ?_ ?_
      · rintro j x H' H'' hj ⟨s2, ts, hD, hT⟩ ⟨Tz, x1, y1, rfl, nT, rfl, e1, e2⟩
        have e1 : ((LI lw n).map V.int)[j]? = some x1 := e1
        have e2 : ((LI hg n).map V.int)[j]? = some y1 := e2
        rw [List.getElem?_map, LI_at _ hj] at e1 e2
        cases e1
        cases e2
        have DT : D ≠ Tz := fun z => by rw [← z, hD] at nT; cases nT
        refine ⟨Tz, _, rfl, SqT.of upd_same, rfl, _, _, rfl, _, _, rfl, rfl, rfl, ?_⟩
        dsimp only [tYes]
        rw [if_pos rfl]
        refine ⟨_, rfl, _, rfl, _, rfl, _, _, rfl, rfl, _, _, rfl, _, rfl, _, rfl, _, rfl, _, _, rfl, rfl, _, _, rfl, (by show 2 ≤ sizeLine; decide), fun t nt => ?_⟩
        have hD2 : (upd H' Tz (.tup [V.int (lw j), V.int (hg j)])) D = some (.lst (ts.map V.ref)) := by rw [upd_ne DT]; exact hD
        have Dt : D ≠ t := fun z => by rw [← z, hD2] at nt; cases nt
        refine ⟨_, by rw [upd_ne Dt]; exact hD2, small1000 (by rw [List.length_map, hT.len]; omega), fun c' u e => ?_, ts ++ [t], ?_, ?_⟩
        · have h2 := s2 c' u e
          have h3 := same_upd (o := .tup [V.int (lw j), V.int (hg j)]) nT _ _ h2
          rw [upd_ne (fun z => by rw [z, nD] at e; cases e), upd_ne (fun z => by rw [z, nt] at h3; cases h3)]
          exact h3
        · rw [upd_same, List.map_append]
          rfl
        · refine TA.put (((hT.same (same_upd nT)).same (same_upd nt)).snoc ?_) (.inl (by rw [upd_ne Dt]; exact hD2))
          exact upd_same
      · rintro H' ⟨s2, ts, hD, hT⟩
        exact k2 D ts H' s2 nD hD hT
/-! ### boxes in the heap -/
def BoxH (H : Hp) (v : V) (lw hg : Nat → Int) (n m : Nat) (c : Option Int) : Prop := ∃ b p q, v = .ref b ∧ H b = some (.tup [.ref p, .ref q, cV c]) ∧ H p = some (.tup ((LI lw n).map V.int)) ∧ H q = some (.tup ((LI hg m).map V.int))
theorem BoxH.mono {H H' : Hp} {v : V} {lw hg : Nat → Int} {n m : Nat} {c : Option Int} (h : BoxH H v lw hg n m c) (s : ∀ c xs, H c = some (.tup xs) → H' c = some (.tup xs)) : BoxH H' v lw hg n m c := by
  obtain ⟨b, p, q, e, h1, h2, h3⟩ := h
  exact ⟨b, p, q, e, s _ _ h1, s _ _ h2, s _ _ h3⟩
theorem BoxH.same {H H' : Hp} {v : V} {lw hg : Nat → Int} {n m : Nat} {c : Option Int} (h : BoxH H v lw hg n m c) (s : Same H H') : BoxH H' v lw hg n m c := h.mono fun c xs e => s c _ e
def spTightened (a : Ad) : Sp := fun vs H Q E => ∃ (p q : Addr) (lw hg : Nat → Int) (n : Nat) (c : Option Int), vs = [.ref p, .ref q, cV c] ∧ H p = some (.tup ((LI lw n).map V.int)) ∧ H q = some (.tup ((LI hg n).map V.int)) ∧ n ≤ 1000 ∧ cOk c ∧ (badC (sumF lw n) (sumF hg n) c → E (.ref a.NoWorld) none H) ∧
  (¬ badC (sumF lw n) (sumF hg n) c → ∀ v H', Same H H' → BoxH H' v (tlF lw hg n c) (thF lw hg n c) n n c → Q v H')
theorem ok_tightened (T : Txt K mg a fd) : FnOk P w K mg base (L2.CX P w) 3 a.tightened fd.tightened ["lows", "highs", "total"] (spTightened a) := by
  have G_narrowed := ok_narrowed (P := P) (w := w) (base := base) T
  refine T.F_tightened.okX sc_tightened (fun vs H Q E h => ?_) (fun cdv A outer s H vs Q E hr h => ?_)
  · obtain ⟨p, q, lw, hg, n, c, rfl, _⟩ := h
    rfl
  · obtain ⟨p, q, lw, hg, n, c, rfl, hp, hq, hn, ok, k1, k2⟩ := h
    refine ⟨_, (pss_cons (ps_set (i := 3) sc_tightened.nd rfl (Or.inl rfl) (pe_call G_narrowed (hr.mono (by decide)) (by rfl) T.g_narrowed T.F_narrowed.kp T.b_narrowed .nil passU (pa_cons (pv 0) (pa_cons (pv 1) (pa_cons (pv 2) pa_nil)))))
    (pss_one (ps_ret (pe_tup (pa_cons (pe_callTy call_tuple_of (by rfl) T.n_tuple (by decide +kernel) (pa_cons (pe_lc (own := [("low", 4), ("high", 5)]) (g := (gTup K 2 (gCons (gName 4) (gCons (gName 5) gNil)))) (by rfl) sc_tightened.nd (pi_list (pv 3)) (blkOk_by (own := [("low", 4), ("high", 5)]) (N := ["lows", "highs", "total", "spans", "low", "high"]) (sc := defScope s_tightened) (by decide +kernel)) (fun _ _ _ _ _ => pg_tupK (K := K) rfl (by rfl) (pgs_cons (pg_name (i := 4) sc_tightened.nd rfl (Or.inl rfl)) (pgs_cons (pg_name (i := 5) sc_tightened.nd rfl (Or.inl rfl)) pgs_nil))) (fun _ _ _ _ _ => pts_nil) (fun _ _ _ _ _ => (pv 4))) pa_nil)) (pa_cons (pe_callTy call_tuple_of (by rfl) T.n_tuple (by decide +kernel) (pa_cons (pe_lc (own := [("low", 4), ("high", 5)]) (g := (gTup K 2 (gCons (gName 4) (gCons (gName 5) gNil)))) (by rfl) sc_tightened.nd (pi_list (pv 3)) (blkOk_by (own := [("low", 4), ("high", 5)]) (N := ["lows", "highs", "total", "spans", "low", "high"]) (sc := defScope s_tightened) (by decide +kernel)) (fun _ _ _ _ _ => pg_tupK (K := K) rfl (by rfl) (pgs_cons (pg_name (i := 4) sc_tightened.nd rfl (Or.inl rfl)) (pgs_cons (pg_name (i := 5) sc_tightened.nd rfl (Or.inl rfl)) pgs_nil))) (fun _ _ _ _ _ => pts_nil) (fun _ _ _ _ _ => (pv 5))) pa_nil)) (pa_cons (pv 2) pa_nil))))))), ?_⟩
    refine ⟨_, rfl, _, rfl, _, rfl, p, q, lw, hg, n, c, rfl, hp, hq, hn, ok, k1, fun nb r ts H1 s1 nr hr1 hT => ?_⟩
    have k2 := k2 nb
    refine gName_go ?_
    refine next_go ?_
    refine ⟨_, rfl, r, rfl, ⟨_, SqL.of hr1⟩, fun D nD => lc_list (K := K) (a := r) (xs := ts.map V.ref) (fun j H' => Same H1 H' ∧ H' D = some (.lst ((LI (tlF lw hg n c) j).map V.int))) ⟨same_upd nD, upd_same⟩ (fun j H' _ ⟨s2, _⟩ => SqL.of (s2 _ _ hr1)) ?_ ?_⟩
    · rintro j x H' hx ⟨s2, hD⟩
      have hj : j < n := by
        have := (List.getElem?_eq_some_iff.mp hx).1
        rw [List.length_map, hT.len] at this
        exact this
      obtain ⟨t, et, ht⟩ := hT.get hj
      rw [List.getElem?_map, et] at hx
      cases hx
      refine ⟨t, _, rfl, SqT.of (s2 _ _ ht), rfl, _, _, rfl, _, _, rfl, rfl, rfl, ?_⟩
      dsimp only [tYes]
      rw [if_pos rfl]
      refine ⟨_, rfl, _, hD, small1000 (by rw [List.length_map, LI_len]; omega), fun c' u e => ?_, ?_⟩
      · rw [upd_ne (fun z => by rw [z, nD] at e; cases e)]
        exact s2 c' u e
      · rw [upd_same, LI_succ, List.map_append]
        rfl
    · rintro H2 ⟨s2, hD⟩
      rw [List.length_map, hT.len] at hD
      refine ⟨D, _, rfl, .inl ⟨SqL.of hD, fun l nl => ?_⟩⟩
      have s3 := s2.trans (same_upd (o := .tup ((LI (tlF lw hg n c) n).map V.int)) nl)
      refine ⟨_, rfl, r, rfl, ⟨_, SqL.of (s3 _ _ hr1)⟩, fun D2 nD2 => lc_list (K := K) (a := r) (xs := ts.map V.ref) (fun j H' => Same (upd H2 l (.tup ((LI (tlF lw hg n c) n).map V.int))) H' ∧ H' D2 = some (.lst ((LI (thF lw hg n c) j).map V.int))) ⟨same_upd nD2, upd_same⟩ (fun j H' _ ⟨s4, _⟩ => SqL.of (s4 _ _ (s3 _ _ hr1))) ?_ ?_⟩
      · rintro j x H' hx ⟨s4, hD2⟩
        have hj : j < n := by
          have := (List.getElem?_eq_some_iff.mp hx).1
          rw [List.length_map, hT.len] at this
          exact this
        obtain ⟨t, et, ht⟩ := hT.get hj
        rw [List.getElem?_map, et] at hx
        cases hx
        refine ⟨t, _, rfl, SqT.of (s4 _ _ (s3 _ _ ht)), rfl, _, _, rfl, _, _, rfl, rfl, rfl, ?_⟩
        dsimp only [tYes]
        rw [if_pos rfl]
        refine ⟨_, rfl, _, hD2, small1000 (by rw [List.length_map, LI_len]; omega), fun c' u e => ?_, ?_⟩
        · rw [upd_ne (fun z => by rw [z, nD2] at e; cases e)]
          exact s4 c' u e
        · rw [upd_same, LI_succ, List.map_append]
          rfl
      · rintro H4 ⟨s4, hD2⟩
        rw [List.length_map, hT.len] at hD2
        refine ⟨D2, _, rfl, .inl ⟨SqL.of hD2, fun l2 nl2 => ?_⟩⟩
        have s5 := s4.trans (same_upd (o := .tup ((LI (thF lw hg n c) n).map V.int)) nl2)
        refine ⟨_, rfl, (by show 3 ≤ sizeLine; decide), fun b nb => ?_⟩
        have s6 := s5.trans (same_upd (o := .tup [V.ref l, V.ref l2, cV c]) nb)
        exact k2 _ _ ((s1.trans s3).trans s6) ⟨b, l, l2, rfl, upd_same, s6 _ _ upd_same, same_upd nb _ _ upd_same⟩
end
end Nu
namespace Nu
open PySem PySem.Spec PyProof.Rows L2
/-- what a box is -/
def isB (lw hg : Nat → Int) (n m : Nat) : Prop := n = m ∧ 1 ≤ n ∧ n ≤ 3 ∧ ∀ i, i < n → 0 ≤ lw i ∧ lw i ≤ hg i ∧ hg i ≤ 7
structure BOk (lw hg : Nat → Int) (n m : Nat) (c : Option Int) : Prop where
  nn : n ≤ 1000
  mm : m ≤ 1000
  ll : ∀ i, i < n → IntOk (lw i)
  hh : ∀ i, i < m → IntOk (hg i)
  cc : cOk c
section
variable {P : Program} {w : World} {K : PySem.W.Frag} {mg : Str → Option Value} {base : Heap} {a : Ad} {fd : Fd}
def spCheckB (a : Ad) : Sp := fun vs H Q E => ∃ (v : V) (lw hg : Nat → Int) (n m : Nat) (c : Option Int), vs = [v] ∧ BoxH H v lw hg n m c ∧ BOk lw hg n m c ∧ (¬ isB lw hg n m → ∀ H', Same H H' → E (.ref a.NoBox) none H') ∧ (isB lw hg n m → ∀ H', Same H H' → Q .non H')
theorem ok_check_box (T : Txt K mg a fd) : FnOk P w K mg base (L2.CX P w) 1 a.check_box fd.check_box ["box"] (spCheckB a) := by
  refine T.F_check_box.okX sc_check_box (fun vs H Q E h => ?_) (fun cdv A outer s H vs Q E hr h => ?_)
  · obtain ⟨v, lw, hg, n, m, c, rfl, _⟩ := h
    rfl
  · obtain ⟨v, lw, hg, n, m, c, rfl, ⟨b, p, q, rfl, hb, hp, hq⟩, ok, k1, k2⟩ := h
    have on := ok.nn
    have om := ok.mm
    refine ⟨_, (pss_cons (ps_asg (pv 0) (pg_tup (by rfl) (pgs_cons (pg_name (i := 1) sc_check_box.nd rfl (Or.inl rfl)) (pgs_cons (pg_name (i := 2) sc_check_box.nd rfl (Or.inl rfl)) (pgs_cons (pg_name (i := 3) sc_check_box.nd rfl (Or.inl rfl)) pgs_nil)))))
    (pss_cons (ps_if (pt_cmpR op_ne (pe_callB call_len_seq (by rfl) T.n_len PySem.boot_len (pa_cons (pv 1) pa_nil)) (pe_callB call_len_seq (by rfl) T.n_len PySem.boot_len (pa_cons (pv 2) pa_nil)) (nomark _)) (pss_one (ps_raise rfl takesU (pmk_own PySem.F.excBase_ValueError T.x_NoBox.x T.x_NoBox.g T.x_NoBox.k (raises_own T.x_NoBox.b T.x_NoBox.t) (by rfl)))) pss_nil)
    (pss_cons (ps_if (PW.pt (pw_or (pt_cmpR op_lt (pe_callB call_len_seq (by rfl) T.n_len PySem.boot_len (pa_cons (pv 1) pa_nil)) pe_int (nomark _)) (pw_or1 (pt_cmpR op_gt (pe_callB call_len_seq (by rfl) T.n_len PySem.boot_len (pa_cons (pv 1) pa_nil)) (pe_gi (by rfl) T.g_MOST_PLACES) (nomark _))))) (pss_one (ps_raise rfl takesU (pmk_own PySem.F.excBase_ValueError T.x_NoBox.x T.x_NoBox.g T.x_NoBox.k (raises_own T.x_NoBox.b T.x_NoBox.t) (by rfl)))) pss_nil)
    (pss_one (ps_for passesU rfl (RZ.pi_zipA (by rfl) T.n_zip (pa_cons (pv 1) (pa_cons (pv 2) pa_nil))) (pg_tup (by rfl) (pgs_cons (pg_name (i := 4) sc_check_box.nd rfl (Or.inl rfl)) (pgs_cons (pg_name (i := 5) sc_check_box.nd rfl (Or.inl rfl)) pgs_nil)))
      (pss_one (ps_if (PW.pt (pw_or (pt_cmpR op_lt (pv 4) pe_int (nomark _)) (pw_or (pt_cmpR op_gt (pv 4) (pv 5) (nomark _)) (pw_or1 (pt_cmpR op_gt (pv 5) (pe_gi (by rfl) T.g_GREATEST_HIGH) (nomark _)))))) (pss_one (ps_raise rfl takesU (pmk_ownA PySem.F.excBase_ValueError T.x_NoBox.x T.x_NoBox.g T.x_NoBox.k (raises_own T.x_NoBox.b T.x_NoBox.t) (by rfl) (pa_cons (pe_joined (.cons pe_str (.cons (pe_fmt (pv 4)) (.cons pe_str (.cons (pe_fmt (pv 5)) PJ.nil))))) pa_nil)))) pss_nil))))))), ?_⟩
    refine ⟨_, rfl, b, _, rfl, SqT.of hb, rfl, _, _, rfl, _, _, rfl, _, _, rfl, rfl, ?_⟩
    refine ⟨_, rfl, p, _, rfl, .inr (SqT.of hp), _, rfl, q, _, rfl, .inr (SqT.of hq), rfl, _, rfl, ?_⟩
    rw [List.length_map, LI_len, List.length_map, LI_len]
    by_cases c1 : n = m
    · subst c1
      rw [decide_eq_true rfl]
      refine iteF ?_
      refine ⟨_, rfl, p, _, rfl, .inr (SqT.of hp), _, _, rfl, rfl, _, rfl, ?_⟩
      rw [List.length_map, LI_len]
      by_cases c2 : (n : Int) < 1
      · rw [decide_eq_true c2]
        refine iteT (iteT ?_)
        exact (k1 (fun z => by have := z.2.1; omega) H (Same.refl _))
      · rw [decide_eq_false c2]
        refine iteF ?_
        refine ⟨_, rfl, p, _, rfl, .inr (SqT.of hp), _, _, rfl, rfl, _, rfl, ?_⟩
        rw [List.length_map, LI_len]
        by_cases c3 : (n : Int) > 3
        · rw [decide_eq_true c3]
          refine iteT ?_
          exact (k1 (fun z => by have := z.2.2.1; omega) H (Same.refl _))
        · rw [decide_eq_false c3]
          refine iteF ?_
          refine next_go ?_
          refine ⟨_, rfl, _, rfl, p, q, _, _, rfl, .inr ⟨SqT.of hp, SqT.of hq, ?_⟩⟩
          refine RZ.for_zipT (K := K) (a := p) (b := q) (xs := (LI lw n).map V.int) (ys := (LI hg n).map V.int) (by rw [List.length_map, List.length_map, LI_len, LI_len]) (fun i σ H' => ∃ v4 v5 : Option V, σ = [some (.ref b), some (.ref p), some (.ref q), some (cV c), v4, v5] ∧ Same H H' ∧ ∀ j, j < i → 0 ≤ lw j ∧ lw j ≤ hg j ∧ hg j ≤ 7)
            ⟨none, none, rfl, Same.refl _, fun j h => by omega⟩ (fun i σ H' ⟨_, _, _, s1, _⟩ => ⟨SqT.of (s1 _ _ hp), SqT.of (s1 _ _ hq)⟩) ?_ ?_
          · rintro i x y Tz σ H1 hx hy ⟨v4, v5, rfl, s1, hall⟩ nT
            have hi : i < n := by
              have := (List.getElem?_eq_some_iff.mp hx).1
              rw [List.length_map, LI_len] at this
              exact this
            rw [List.getElem?_map, LI_at _ hi] at hx hy
            cases hx
            cases hy
            have ol := ok.ll i hi
            have oh := ok.hh i hi
            have s2 : Same H (upd H1 Tz (.tup [V.int (lw i), V.int (hg i)])) := s1.trans (same_upd nT)
            have bad : ¬ (0 ≤ lw i ∧ lw i ≤ hg i ∧ hg i ≤ 7) → E (.ref a.NoBox) none (upd H1 Tz (.tup [V.int (lw i), V.int (hg i)])) := fun z => k1 (fun B => z (B.2.2.2 i hi)) _ s2
            refine ⟨Tz, _, rfl, SqT.of upd_same, rfl, _, _, rfl, _, _, rfl, rfl, ?_⟩
            refine ⟨_, rfl, _, _, rfl, rfl, _, rfl, ?_⟩
            by_cases d1 : lw i < 0
            · rw [decide_eq_true d1]
              refine iteT (iteT ?_)
              exact js_s (b := 0) (Nat.le_refl _) (by decide +kernel) (by omega) fun _ ha => js_f rfl ol ha (by omega) fun _ ha => js_s ha (by decide +kernel) (by omega) fun _ ha => js_f rfl oh ha (by omega) fun _ _ => ⟨one_le _, bad (by omega)⟩
            · rw [decide_eq_false d1]
              refine iteF ?_
              refine ⟨_, rfl, _, rfl, _, _, rfl, rfl, _, rfl, ?_⟩
              by_cases d2 : lw i > hg i
              · rw [decide_eq_true d2]
                refine iteT (iteT ?_)
                exact js_s (b := 0) (Nat.le_refl _) (by decide +kernel) (by omega) fun _ ha => js_f rfl ol ha (by omega) fun _ ha => js_s ha (by decide +kernel) (by omega) fun _ ha => js_f rfl oh ha (by omega) fun _ _ => ⟨one_le _, bad (by omega)⟩
              · rw [decide_eq_false d2]
                refine iteF ?_
                refine ⟨_, rfl, _, _, rfl, rfl, _, rfl, ?_⟩
                by_cases d3 : hg i > 7
                · rw [decide_eq_true d3]
                  refine iteT ?_
                  exact js_s (b := 0) (Nat.le_refl _) (by decide +kernel) (by omega) fun _ ha => js_f rfl ol ha (by omega) fun _ ha => js_s ha (by decide +kernel) (by omega) fun _ ha => js_f rfl oh ha (by omega) fun _ _ => ⟨one_le _, bad (by omega)⟩
                · rw [decide_eq_false d3]
                  refine iteF ?_
                  refine ⟨_, _, rfl, s2, fun j hj => ?_⟩
                  by_cases e : j = i
                  · subst e
                    omega
                  · exact hall j (by omega)
          · rintro σ H1 ⟨v4, v5, rfl, s1, hall⟩
            rw [List.length_map, LI_len] at hall
            exact k2 ⟨rfl, by omega, by omega, hall⟩ H1 s1
    · rw [decide_eq_false (fun z => c1 (by injection z with z; omega))]
      refine iteT ?_
      exact (k1 (fun z => c1 z.1) H (Same.refl _))
end
end Nu
namespace Nu
open PySem PySem.Spec PyProof.Rows L2
theorem cut_to (xs : List V) (k : Nat) : cutV xs none (some (k : Int)) = xs.take k := by
  unfold cutV
  simp only [HT.sIx]
  by_cases c : k ≤ xs.length
  · have e : ¬ ((k : Int) < 0) := by omega
    simp [e, List.take_eq_take_iff]
    try omega
  · have e : ¬ ((k : Int) < 0) := by omega
    simp [e, List.take_eq_take_iff]
    try omega
theorem cut_from (xs : List V) (k : Nat) (h : k ≤ xs.length) : cutV xs (some (k : Int)) none = xs.drop k := by
  unfold cutV
  simp only [HT.sIx]
  have e : ¬ ((k : Int) < 0) := by omega
  simp [e]
  have e2 : min k xs.length = k := Nat.min_eq_left h
  first
    | (rw [e2]; exact List.take_of_length_le (by rw [List.length_drop]; omega))
    | (simp [e2])
theorem flat_snoc {α β : Type} (f : α → List β) (l : List α) (x : α) : (l ++ [x]).flatMap f = l.flatMap f ++ f x := by
  rw [List.flatMap_append, List.flatMap_cons, List.flatMap_nil, List.append_nil]
theorem take_flat {α β : Type} (f : α → List β) : ∀ (l : List α) (m : Nat), ((l.take m).flatMap f).length ≤ (l.flatMap f).length
  | [], m => by simp
  | x :: r, 0 => by simp
  | x :: r, m + 1 => by
    rw [List.take_succ_cons, List.flatMap_cons, List.flatMap_cons, List.length_append, List.length_append]
    have := take_flat f r m
    omega
theorem LI_upd {f : Nat → Int} {n k : Nat} (v : Int) (h : k < n) : ((LI f n).take k ++ [v]) ++ (LI f n).drop (k + 1) = LI (fun i => if i = k then v else f i) n := by
  rw [← LI_set f v, List.set_eq_take_append_cons_drop, if_pos (by rw [LI_len]; exact h), List.append_assoc]
  rfl
theorem cat_go {K : PySem.W.Frag} {H : Hp} {a b : Addr} {xs ys : List V} {Q : VK} (ha : H a = some (.tup xs)) (hb : H b = some (.tup ys)) (hl : xs.length + ys.length ≤ 1000) (k : ∀ p H', Same H H' → H' p = some (.tup (xs ++ ys)) → Q (.ref p) H') : rCatA K (.ref a) (.ref b) H Q := by
  refine ⟨a, b, xs, ys, rfl, rfl, SqT.of ha, SqT.of hb, Nat.le_of_lt (small1000 hl), fun e => ?_, fun _ e => ?_, fun _ _ p np => k p _ (same_upd np) upd_same⟩
  · subst e
    exact k b H (Same.refl _) hb
  · subst e
    exact k a H (Same.refl _) (by rw [List.append_nil]; exact ha)
theorem slTo_go {K : PySem.W.Frag} {H : Hp} {a : Addr} {xs : List V} {j : Nat} {Q : VK} (ha : H a = some (.tup xs)) (k : ∀ p H', Same H H' → H' p = some (.tup (xs.take j)) → Q (.ref p) H') : rSlA K (.ref a) none (some (j : Int)) H Q := by
  refine ⟨a, xs, rfl, SqT.of ha, fun ⟨e1, e2⟩ => ?_, fun _ p np => k p _ (same_upd np) (by rw [upd_same, cut_to])⟩
  refine k a H (Same.refl _) ?_
  rw [ha]
  have e3 : xs.length ≤ j := by
    simp only [HT.sIx] at e2
    split at e2 <;> omega
  rw [List.take_of_length_le e3]
theorem slFrom_go {K : PySem.W.Frag} {H : Hp} {a : Addr} {xs : List V} {j : Nat} {Q : VK} (ha : H a = some (.tup xs)) (hj : j ≤ xs.length) (k : ∀ p H', Same H H' → H' p = some (.tup (xs.drop j)) → Q (.ref p) H') : rSlA K (.ref a) (some (j : Int)) none H Q := by
  refine ⟨a, xs, rfl, SqT.of ha, fun ⟨e1, e2⟩ => ?_, fun _ p np => k p _ (same_upd np) (by rw [upd_same, cut_from _ _ hj])⟩
  refine k a H (Same.refl _) ?_
  rw [ha]
  have e3 : j = 0 := by
    simp only [HT.sIx] at e1
    split at e1 <;> omega
  rw [e3, List.drop_zero]
/-- the looks of a box, as the lists [k, many] -/
def lkAt (lw hg : Nat → Int) (k : Nat) : List (List Int) := (rng (lw k + 1) (hg k)).map fun m => [(k : Int), m]
def lks (lw hg : Nat → Int) (n : Nat) : List (List Int) := (List.range n).flatMap fun k => lkAt lw hg k
theorem lks_succ (lw hg : Nat → Int) (n : Nat) : lks lw hg (n + 1) = lks lw hg n ++ lkAt lw hg n := by
  unfold lks
  rw [List.range_succ, flat_snoc]
theorem mem_lks {lw hg : Nat → Int} {n : Nat} {x : List Int} : x ∈ lks lw hg n ↔ ∃ (k : Nat) (m : Int), k < n ∧ lw k + 1 ≤ m ∧ m ≤ hg k ∧ x = [(k : Int), m] := by
  unfold lks lkAt
  rw [List.mem_flatMap]
  constructor
  · rintro ⟨k, hk, hx⟩
    obtain ⟨m, hm, rfl⟩ := List.mem_map.mp hx
    have := mem_rng.mp hm
    exact ⟨k, m, List.mem_range.mp hk, this.1, this.2, rfl⟩
  · rintro ⟨k, m, hk, h1, h2, rfl⟩
    exact ⟨k, List.mem_range.mpr hk, List.mem_map.mpr ⟨m, mem_rng.mpr ⟨h1, h2⟩, rfl⟩⟩
theorem lks_len {lw hg : Nat → Int} : ∀ {n : Nat}, (∀ i, i < n → 0 ≤ lw i ∧ hg i ≤ 7) → (lks lw hg n).length ≤ 7 * n
  | 0, _ => Nat.le_refl _
  | n + 1, h => by
    have h1 := lks_len (n := n) fun i hi => h i (by omega)
    have h2 := h n (by omega)
    rw [lks_succ, List.length_append]
    unfold lkAt
    rw [List.length_map, rng_len]
    omega
section
variable {P : Program} {w : World} {K : PySem.W.Frag} {mg : Str → Option Value} {base : Heap} {a : Ad} {fd : Fd}
def spTight (a : Ad) : Sp := fun vs H Q E => ∃ (v : V) (lw hg : Nat → Int) (n m : Nat) (c : Option Int), vs = [v] ∧ BoxH H v lw hg n m c ∧ BOk lw hg n m c ∧ (¬ isB lw hg n m → ∀ H', Same H H' → E (.ref a.NoBox) none H') ∧
  (isB lw hg n m → badC (sumF lw n) (sumF hg n) c → ∀ H', Same H H' → E (.ref a.NoWorld) none H') ∧
  (isB lw hg n m → ¬ badC (sumF lw n) (sumF hg n) c → ∀ v' H', Same H H' → BoxH H' v' (tlF lw hg n c) (thF lw hg n c) n n c → Q v' H')
theorem ok_tight (T : Txt K mg a fd) : FnOk P w K mg base (L2.CX P w) 4 a.tight fd.tight ["box"] (spTight a) := by
  have G_check_box := ok_check_box (P := P) (w := w) (base := base) T
  have G_tightened := ok_tightened (P := P) (w := w) (base := base) T
  refine T.F_tight.okX sc_tight (fun vs H Q E h => ?_) (fun cdv A outer s H vs Q E hr h => ?_)
  · obtain ⟨v, lw, hg, n, m, c, rfl, _⟩ := h
    rfl
  · obtain ⟨v, lw, hg, n, m, c, rfl, B, ok, k1, k2, k3⟩ := h
    refine ⟨_, (pss_cons (ps_expr (pe_call G_check_box (hr.mono (by decide)) (by rfl) T.g_check_box T.F_check_box.kp T.b_check_box .nil passU (pa_cons (pv 0) pa_nil)))
    (pss_cons (ps_asg (pv 0) (pg_tup (by rfl) (pgs_cons (pg_name (i := 1) sc_tight.nd rfl (Or.inl rfl)) (pgs_cons (pg_name (i := 2) sc_tight.nd rfl (Or.inl rfl)) (pgs_cons (pg_name (i := 3) sc_tight.nd rfl (Or.inl rfl)) pgs_nil)))))
    (pss_one (ps_ret (pe_call G_tightened (hr.mono (by decide)) (by rfl) T.g_tightened T.F_tightened.kp T.b_tightened .nil passU (pa_cons (pv 1) (pa_cons (pv 2) (pa_cons (pv 3) pa_nil)))))))), ?_⟩
    refine ⟨_, rfl, v, lw, hg, n, m, c, rfl, B, ok, k1, fun ib H1 s1 => ?_⟩
    have e : n = m := ib.1
    subst e
    obtain ⟨b, p, q, rfl, hb, hp, hq⟩ := B.same s1
    refine ⟨_, rfl, b, _, rfl, SqT.of hb, rfl, _, _, rfl, _, _, rfl, _, _, rfl, rfl, ?_⟩
    refine ⟨_, rfl, _, rfl, _, rfl, p, q, lw, hg, n, c, rfl, hp, hq, ok.nn, ok.cc, fun z => k2 ib z H1 s1, fun nb v' H2 s2 B2 => k3 ib nb v' H2 (s1.trans s2) B2⟩
def spLooks : Sp := fun vs H Q _ => ∃ (v : V) (lw hg : Nat → Int) (n : Nat) (c : Option Int), vs = [v] ∧ BoxH H v lw hg n n c ∧ n ≤ 3 ∧ (∀ i, i < n → 0 ≤ lw i ∧ hg i ≤ 7 ∧ lw i ≤ hg i) ∧
  ∀ r ts H', Same H H' → H r = none → H' r = some (.lst (ts.map V.ref)) → TL H' ts (lks lw hg n) → Q (.ref r) H'
theorem ok_looks_in (T : Txt K mg a fd) : FnOk P w K mg base CX0 1 a.looks_in fd.looks_in ["box"] spLooks := by
  refine T.F_looks_in.ok sc_looks_in (fun vs H Q E h => ?_) (fun cdv A outer s H vs Q E hr h => ?_)
  · obtain ⟨v, lw, hg, n, c, rfl, _⟩ := h
    rfl
  · obtain ⟨v, lw, hg, n, c, rfl, ⟨b, p, q, rfl, hb, hp, hq⟩, hn, hall, k⟩ := h
    refine ⟨_, (pss_cons (ps_asg (pv 0) (pg_tup (by rfl) (pgs_cons (pg_name (i := 1) sc_looks_in.nd rfl (Or.inr rfl)) (pgs_cons (pg_name (i := 2) sc_looks_in.nd rfl (Or.inr rfl)) (pgs_cons (pg_name (i := 3) sc_looks_in.nd rfl (Or.inl rfl)) pgs_nil)))))
    (pss_one (ps_ret (pe_lc2 (own := [("k", 4), ("many", 5)]) (vs1 := [5]) (g := (gName 4)) (g1 := (gName 5)) (by rfl) sc_looks_in.nd (pi_range1 (by rfl) T.n_range (pa_cons (pe_callB call_len_seq (by rfl) T.n_len PySem.boot_len (pa_cons (pv 1) pa_nil)) pa_nil)) (blkOk_by (own := [("k", 4), ("many", 5)]) (N := ["box", "lows", "highs", "_", "k", "many"]) (sc := defScope s_looks_in) (by decide +kernel)) (by decide) (fun _ _ _ _ _ => pg_name (i := 4) sc_looks_in.nd rfl (Or.inl rfl)) (fun _ _ _ _ _ => pts_nil) (fun _ _ _ _ _ => (pi_range2 (by rfl) T.n_range (pa_cons (pe_op op_add (pe_ix (ixT_K (K := K) rfl) (pv 1) (pv 4) (fun _ _ => rfl)) pe_int) (pa_cons (pe_op op_add (pe_ix (ixT_K (K := K) rfl) (pv 2) (pv 4) (fun _ _ => rfl)) pe_int) pa_nil)))) (fun _ _ _ _ _ => pg_name (i := 5) sc_looks_in.nd rfl (Or.inl rfl)) (fun _ _ _ _ _ => pts_nil) (fun _ _ _ _ _ => (pe_tup (pa_cons (pv 4) (pa_cons (pv 5) pa_nil)))))))), ?_⟩
    refine ⟨_, rfl, b, _, rfl, SqT.of hb, rfl, _, _, rfl, _, _, rfl, _, _, rfl, rfl, ?_⟩
    refine ⟨_, rfl, p, _, rfl, .inr (SqT.of hp), _, rfl, by omega, by rw [List.length_map, LI_len]; omega, fun D nD => ?_⟩
    refine out_it (walk_range (lo := 0) (n := ((((LI lw n).map V.int).length : Nat) : Int).toNat)) (fun k H' => Same H H' ∧ ∃ ts : List Addr, H' D = some (.lst (ts.map V.ref)) ∧ TL H' ts (lks lw hg k))
      ⟨same_upd nD, [], upd_same, TL.nil _⟩ (fun k H' _ _ => trivial) ?_ ?_
    · rintro j x H1 H1' hj ⟨s1, ts, hD, hT⟩ ⟨rfl, rfl⟩
      have hj : j < n := by rw [List.length_map, LI_len] at hj; omega
      have hb := hall j hj
      have e0 : (0 : Int) + (j : Int) = (j : Int) := by omega
      refine ⟨rfl, ?_⟩
      dsimp only [tYes]
      rw [if_pos rfl, e0]
      refine ⟨_, rfl, _, rfl, p, _, (j : Int), _, rfl, rfl, SqT.of (s1 _ _ hp), atI_nat (by rw [List.getElem?_map, LI_at _ hj]; rfl), _, _, rfl, rfl, ?_⟩
      refine ⟨_, rfl, _, rfl, q, _, (j : Int), _, rfl, rfl, SqT.of (s1 _ _ hq), atI_nat (by rw [List.getElem?_map, LI_at _ hj]; rfl), _, _, rfl, rfl, ?_⟩
      refine ⟨_, _, rfl, ⟨by omega, by omega, by omega, by omega⟩, ?_⟩
      have l1 := lks_len (lw := lw) (hg := hg) (n := j) fun i hi => by
        have := hall i (by omega)
        exact ⟨this.1, this.2.1⟩
      refine out_it (walk_range (lo := lw j + 1) (n := (hg j + 1 - (lw j + 1)).toNat)) (fun i H' => Same H H' ∧ ∃ ts : List Addr, H' D = some (.lst (ts.map V.ref)) ∧ TL H' ts (lks lw hg j ++ (LI (fun i => lw j + 1 + (i : Int)) i).map fun m => [(j : Int), m]))
        ⟨s1, ts, hD, by
          show TL _ ts (lks lw hg j ++ [])
          rw [List.append_nil]
          exact hT⟩ (fun k H' _ _ => trivial) ?_ ?_
      · rintro i x H2 H2' hi ⟨s2, ts2, hD2, hT2⟩ ⟨rfl, rfl⟩
        refine ⟨rfl, ?_⟩
        dsimp only [tYes]
        rw [if_pos rfl]
        refine ⟨_, rfl, _, rfl, (by show 2 ≤ sizeLine; decide), fun t nt => ?_⟩
        have Dt : D ≠ t := fun z => by rw [← z, hD2] at nt; cases nt
        have l2 := hT2.len
        rw [List.length_append, List.length_map, LI_len] at l2
        refine ⟨_, by rw [upd_ne Dt]; exact hD2, small1000 (by rw [List.length_map]; omega), fun c' u e => ?_, ts2 ++ [t], ?_, ?_⟩
        · have h2 := s2 c' u e
          rw [upd_ne (fun z => by rw [z, nD] at e; cases e), upd_ne (fun z => by rw [z, nt] at h2; cases h2)]
          exact h2
        · rw [upd_same, List.map_append]
          rfl
        · rw [LI_succ, List.map_append, ← List.append_assoc]
          refine TL.put ((hT2.same (same_upd nt)).snoc ?_) (.inl (by rw [upd_ne Dt]; exact ⟨_, hD2⟩))
          exact upd_same
      · rintro H2 ⟨s2, ts2, hD2, hT2⟩
        refine ⟨s2, ts2, hD2, ?_⟩
        rw [lks_succ]
        exact hT2
    · rintro H1 ⟨s1, ts, hD, hT⟩
      rw [List.length_map, LI_len, Int.toNat_natCast] at hT
      exact k D ts H1 s1 nD hD hT
def spParted : Sp := fun vs H Q _ => ∃ (v : V) (l : Addr) (lw hg : Nat → Int) (n k : Nat) (m : Int) (c : Option Int), vs = [v, .ref l] ∧ BoxH H v lw hg n n c ∧ H l = some (.tup [.int (k : Int), .int m]) ∧ n ≤ 3 ∧ k < n ∧ cOk c ∧
  ¬ badC (sumF (yLo lw k m) n) (sumF hg n) c ∧ ¬ badC (sumF lw n) (sumF (yLo hg k (m - 1)) n) c ∧
  ∀ p vy vn H', Same H H' → H' p = some (.tup [vy, vn]) → BoxH H' vy (tlF (yLo lw k m) hg n c) (thF (yLo lw k m) hg n c) n n c → BoxH H' vn (tlF lw (yLo hg k (m - 1)) n c) (thF lw (yLo hg k (m - 1)) n c) n n c → Q (.ref p) H'
theorem map_LI_upd {f : Nat → Int} {n k : Nat} (v : Int) (h : k < n) : (((LI f n).map V.int).take k ++ [V.int v]) ++ ((LI f n).map V.int).drop (k + 1) = (LI (yLo f k v) n).map V.int := by
  show _ = (LI (fun i => if i = k then v else f i) n).map V.int
  rw [← LI_upd v h, List.map_append, List.map_append, List.map_take, List.map_drop]
  rfl
theorem ok_parted (T : Txt K mg a fd) : FnOk P w K mg base CX0 4 a.parted fd.parted ["box", "look"] spParted := by
  have G_tightened := ok_tightened (P := P) (w := w) (base := base) T
  refine T.F_parted.ok sc_parted (fun vs H Q E h => ?_) (fun cdv A outer s H vs Q E hr h => ?_)
  · obtain ⟨v, l, lw, hg, n, k, m, c, rfl, _⟩ := h
    rfl
  · obtain ⟨v, l, lw, hg, n, k, m, c, rfl, ⟨b, p, q, rfl, hb, hp, hq⟩, hl, hn, hk, oc, n1, n2, kk⟩ := h
    refine ⟨_, (pss_cons (ps_asg (pv 0) (pg_tup (by rfl) (pgs_cons (pg_name (i := 2) sc_parted.nd rfl (Or.inl rfl)) (pgs_cons (pg_name (i := 3) sc_parted.nd rfl (Or.inl rfl)) (pgs_cons (pg_name (i := 4) sc_parted.nd rfl (Or.inl rfl)) pgs_nil)))))
    (pss_cons (ps_asg (pv 1) (pg_tup (by rfl) (pgs_cons (pg_name (i := 5) sc_parted.nd rfl (Or.inl rfl)) (pgs_cons (pg_name (i := 6) sc_parted.nd rfl (Or.inl rfl)) pgs_nil))))
    (pss_cons (ps_set (i := 7) sc_parted.nd rfl (Or.inl rfl) (pe_call G_tightened (hr.mono (by decide)) (by rfl) T.g_tightened T.F_tightened.kp T.b_tightened .nil passL (pa_cons (pe_op op_catA (pe_op op_catA (pe_slice sl_tupA (pv 2) po_none (po_some (pv 5))) (pe_tup (pa_cons (pv 6) pa_nil))) (pe_slice sl_tupA (pv 2) (po_some (pe_op op_add (pv 5) pe_int)) po_none)) (pa_cons (pv 3) (pa_cons (pv 4) pa_nil)))))
    (pss_cons (ps_set (i := 8) sc_parted.nd rfl (Or.inl rfl) (pe_call G_tightened (hr.mono (by decide)) (by rfl) T.g_tightened T.F_tightened.kp T.b_tightened .nil passL (pa_cons (pv 2) (pa_cons (pe_op op_catA (pe_op op_catA (pe_slice sl_tupA (pv 3) po_none (po_some (pv 5))) (pe_tup (pa_cons (pe_op op_sub (pv 6) pe_int) pa_nil))) (pe_slice sl_tupA (pv 3) (po_some (pe_op op_add (pv 5) pe_int)) po_none)) (pa_cons (pv 4) pa_nil)))))
    (pss_one (ps_ret (pe_tup (pa_cons (pv 7) (pa_cons (pv 8) pa_nil))))))))), ?_⟩
    refine ⟨_, rfl, b, _, rfl, SqT.of hb, rfl, _, _, rfl, _, _, rfl, _, _, rfl, rfl, ?_⟩
    refine ⟨_, rfl, l, _, rfl, SqT.of hl, rfl, _, _, rfl, _, _, rfl, rfl, ?_⟩
    have e1 : (k : Int) + 1 = ((k + 1 : Nat) : Int) := by omega
    refine next_go ?_
    refine seq_go ?_
    -- yes
    refine ⟨_, rfl, _, rfl, _, rfl, slTo_go hp fun p1 H1 s1 hp1 => ?_⟩
    refine ⟨_, rfl, (by show 1 ≤ sizeLine; decide), fun t1 nt1 => ?_⟩
    have a1 := s1.trans (same_upd (o := .tup [V.int m]) nt1)
    have lp : ((LI lw n).map V.int).length = n := by rw [List.length_map, LI_len]
    have lq : ((LI hg n).map V.int).length = n := by rw [List.length_map, LI_len]
    refine cat_go (same_upd nt1 _ _ hp1) upd_same (by rw [List.length_take, lp, List.length_singleton]; omega) fun p2 H2 s2 hp2 => ?_
    have a2 := a1.trans s2
    refine ⟨_, rfl, _, rfl, _, _, rfl, rfl, ((k + 1 : Nat) : Int), congrArg V.int e1, ?_⟩
    dsimp only [tNoPart]
    refine slFrom_go (j := k + 1) (a2 _ _ hp) (by rw [lp]; omega) fun p3 H3 s3 hp3 => ?_
    have a3 := a2.trans s3
    refine cat_go (s3 _ _ hp2) hp3 (by rw [List.length_append, List.length_take, List.length_drop, lp, List.length_singleton]; omega) fun p4 H4 s4 hp4 => ?_
    rw [map_LI_upd m hk] at hp4
    have a4 := a3.trans s4
    refine ⟨_, rfl, _, rfl, p4, q, yLo lw k m, hg, n, c, rfl, hp4, a4 _ _ hq, by omega, oc, fun z => absurd z n1, fun _ vy H5 s5 B5 => ?_⟩
    have a5 := a4.trans s5
    refine gName_go ?_
    try refine next_go ?_
    try refine seq_go ?_
    -- no
    refine ⟨_, rfl, _, rfl, _, rfl, _, rfl, slTo_go (a5 _ _ hq) fun p1 H1 s6 hp1 => ?_⟩
    refine ⟨_, rfl, _, _, rfl, rfl, (by show 1 ≤ sizeLine; decide), fun t1 nt1 => ?_⟩
    have a6 := s6.trans (same_upd (o := .tup [V.int (m - 1)]) nt1)
    refine cat_go (same_upd nt1 _ _ hp1) upd_same (by rw [List.length_take, lq, List.length_singleton]; omega) fun p2 H2 s7 hp2 => ?_
    have a7 := a6.trans s7
    refine ⟨_, rfl, _, rfl, _, _, rfl, rfl, ((k + 1 : Nat) : Int), congrArg V.int e1, ?_⟩
    dsimp only [tNoPart]
    refine slFrom_go (j := k + 1) (a7 _ _ (a5 _ _ hq)) (by rw [lq]; omega) fun p3 H3 s8 hp3 => ?_
    have a8 := a7.trans s8
    refine cat_go (s8 _ _ hp2) hp3 (by rw [List.length_append, List.length_take, List.length_drop, lq, List.length_singleton]; omega) fun p5 H6 s9 hp5 => ?_
    rw [map_LI_upd (m - 1) hk] at hp5
    have a9 := a8.trans s9
    refine ⟨_, rfl, p, p5, lw, yLo hg k (m - 1), n, c, rfl, a9 _ _ (a5 _ _ hp), hp5, by omega, oc, fun z => absurd z n2, fun _ vn H7 s10 B7 => ?_⟩
    refine gName_go ?_
    try refine next_go ?_
    have a10 := a9.trans s10
    refine ⟨_, rfl, _, rfl, (by show 2 ≤ sizeLine; decide), fun t nt => ?_⟩
    exact kk t vy vn _ ((a5.trans a10).trans (same_upd nt)) upd_same ((B5.same a10).same (same_upd nt)) (B7.same (same_upd nt))
end
end Nu
namespace Nu
open PySem PySem.Spec PyProof.Rows L2
theorem hu65 {A : Around} {k : Nat} (hr : Room k A) : A.units + 65 < cLine := by
  have := hr.un
  omega
theorem eqvAll_ints : ∀ x y : List Int, PyData.eqvAll ((x.map V.int).map dV) ((y.map V.int).map dV) = decide (x = y)
  | [], [] => by simp [PyData.eqvAll]
  | [], b :: y => by simp [PyData.eqvAll]
  | a :: x, [] => by simp [PyData.eqvAll]
  | a :: x, b :: y => by
    rw [List.map_cons, List.map_cons, List.map_cons, List.map_cons]
    unfold PyData.eqvAll
    rw [eqvAll_ints x y]
    show (PyData.eqv (.int a) (.int b) && decide (x = y)) = _
    simp only [PyData.eqv]
    by_cases h : a = b
    · subst h
      simp
    · simp [h]
theorem eqv_dw (x y : List Int) : PyData.eqv (dw x) (dw y) = decide (x = y) := by
  unfold dw
  rw [← eqvAll_ints]
  simp only [PyData.eqv]
theorem dw_shaped (x : List Int) : SeqAt.shaped (dw x) = true := by
  unfold SeqAt.shaped
  have h1 := lay_worlds [x]
  have h2 := depth_worlds [x]
  simp only [List.map_cons, List.map_nil, PyData.canLayAll0, PyData.depthAll, Bool.and_true] at h1 h2
  rw [h1, Bool.true_and]
  exact decide_eq_true (by omega)
theorem dws_shaped (ws : List (List Int)) : SeqAt.shaped (.list (ws.map dw)) = true := by
  unfold SeqAt.shaped
  have h1 := lay_worlds ws
  have h2 := depth_worlds ws
  simp only [PyData.canLay0, PyData.depth, h1, Bool.true_and]
  exact decide_eq_true (by omega)
theorem any_dw (ws : List (List Int)) (y : List Int) : ((ws.map dw).any fun z => PyData.eqv z (dw y)) = decide (y ∈ ws) := by
  induction ws with
  | nil => simp
  | cons x r ih =>
    rw [List.map_cons, List.any_cons, ih, eqv_dw]
    by_cases h : x = y
    · subst h
      simp
    · simp [h, Ne.symm h, List.mem_cons, eq_comm]
section
variable {P : Program} {w : World} {K : PySem.W.Frag} {mg : Str → Option Value} {base : Heap} {a : Ad} {fd : Fd}
theorem dp_tup {H : Hp} {l : Addr} {x : List Int} (h : H l = some (.tup (x.map V.int))) : Dp K H (.ref l) (dw x) := .tup (SqT.of h) (dp_flats _ fun y hy => by
  obtain ⟨z, _, rfl⟩ := List.mem_map.mp hy
  rfl)
def spBehind (a : Ad) : Sp := fun vs H Q E => ∃ (v : V) (l : Addr) (lw hg : Nat → Int) (n m : Nat) (c : Option Int) (k mm : Int), vs = [v, .ref l] ∧ BoxH H v lw hg n m c ∧ BOk lw hg n m c ∧ H l = some (.tup [.int k, .int mm]) ∧
  (¬ isB lw hg n m → ∀ H', Same H H' → E (.ref a.NoBox) none H') ∧
  (isB lw hg n m → badC (sumF lw n) (sumF hg n) c → ∀ H', Same H H' → E (.ref a.NoWorld) none H') ∧
  (isB lw hg n m → ¬ badC (sumF lw n) (sumF hg n) c → [k, mm] ∉ lks (tlF lw hg n c) (thF lw hg n c) n → ∀ H', Same H H' → E (.ref a.NotThere) none H') ∧
  (∀ j : Nat, k = (j : Int) → j < n → isB lw hg n m → ¬ badC (sumF lw n) (sumF hg n) c → tlF lw hg n c j < mm → mm ≤ thF lw hg n c j → ∀ p vy vn H', Same H H' → H' p = some (.tup [vy, vn]) →
    BoxH H' vy (tlF (yLo (tlF lw hg n c) j mm) (thF lw hg n c) n c) (thF (yLo (tlF lw hg n c) j mm) (thF lw hg n c) n c) n n c →
    BoxH H' vn (tlF (tlF lw hg n c) (yLo (thF lw hg n c) j (mm - 1)) n c) (thF (tlF lw hg n c) (yLo (thF lw hg n c) j (mm - 1)) n c) n n c → Q (.ref p) H')
theorem ok_behind (T : Txt K mg a fd) : FnOk P w K mg base (L2.CX P w) 5 a.behind fd.behind ["box", "look"] (spBehind a) := by
  have G_tight := ok_tight (P := P) (w := w) (base := base) T
  have G_looks_in := ok_looks_in (P := P) (w := w) (base := base) T
  have G_parted := ok_parted (P := P) (w := w) (base := base) T
  refine T.F_behind.okX sc_behind (fun vs H Q E h => ?_) (fun cdv A outer s H vs Q E hr h => ?_)
  · obtain ⟨v, l, lw, hg, n, m, c, k, mm, rfl, _⟩ := h
    rfl
  · obtain ⟨v, l, lw, hg, n, m, c, k, mm, rfl, B, ok, hl, k1, k2, k3, k4⟩ := h
    refine ⟨_, (pss_cons (ps_set (i := 2) sc_behind.nd rfl (Or.inl rfl) (pe_call G_tight (hr.mono (by decide)) (by rfl) T.g_tight T.F_tight.kp T.b_tight .nil passU (pa_cons (pv 0) pa_nil)))
    (pss_cons (ps_if (pt_cmpR (op_notInD (hu65 hr)) (pv 1) (pe_call G_looks_in (hr.mono (by decide)) (by rfl) T.g_looks_in T.F_looks_in.kp T.b_looks_in .nil pass0 (pa_cons (pv 2) pa_nil)) (by rfl)) (pss_one (ps_raise rfl takesU (pmk_own PySem.F.excBase_ValueError T.x_NotThere.x T.x_NotThere.g T.x_NotThere.k (raises_own T.x_NotThere.b T.x_NotThere.t) (by rfl)))) pss_nil)
    (pss_one (ps_ret (pe_call G_parted (hr.mono (by decide)) (by rfl) T.g_parted T.F_parted.kp T.b_parted .nil pass0 (pa_cons (pv 2) (pa_cons (pv 1) pa_nil))))))), ?_⟩
    refine ⟨_, rfl, v, lw, hg, n, m, c, rfl, B, ok, k1, k2, fun ib nb v1 H1 s1 B1 => ?_⟩
    have le0 : ∀ i, i < n → lw i ≤ hg i := fun i hi => (ib.2.2.2 i hi).2.1
    have Tt := Tg.of (lw := lw) (hg := hg) (n := n) (c := c) le0 nb
    have bnd : ∀ i, i < n → 0 ≤ tlF lw hg n c i ∧ thF lw hg n c i ≤ 7 ∧ tlF lw hg n c i ≤ thF lw hg n c i := fun i hi => by
      have h1 := ib.2.2.2 i hi
      have h2 := tl_ge (lw := lw) (hg := hg) (n := n) (c := c) i
      have h3 := th_le (lw := lw) (hg := hg) (n := n) (c := c) i
      have h4 := Tt.le i hi
      omega
    have n3 : n ≤ 3 := ib.2.2.1
    refine gName_go ?_
    refine seq_go ?_
    refine ⟨_, rfl, _, rfl, v1, _, _, n, c, rfl, B1, n3, bnd, fun r ts H2 s2 nr hr2 hT => ?_⟩
    have s12 := s1.trans s2
    refine ⟨dw [k, mm], ((lks (tlF lw hg n c) (thF lw hg n c) n).map dw), dp_tup (s12 _ _ hl), .lst (SqL.of hr2) (dp_worlds ts _ hT), dw_shaped _, dws_shaped _, _, rfl, ?_⟩
    rw [any_dw]
    by_cases c0 : [k, mm] ∈ lks (tlF lw hg n c) (thF lw hg n c) n
    · rw [decide_eq_true c0]
      refine iteF ?_
      obtain ⟨j, m', hj, m1, m2, e⟩ := mem_lks.mp c0
      cases e
      have hy := Tt.yes hj (show tlF lw hg n c j < mm by omega) m2
      have hn := Tt.no hj (show tlF lw hg n c j < mm by omega) m2
      refine next_go ?_
      refine ⟨_, rfl, _, rfl, v1, l, _, _, n, j, mm, c, rfl, B1.same s2, s12 _ _ hl, n3, hj, ok.cc, hy.2, hn.2, fun p vy vn H3 s3 hp By Bn => ?_⟩
      exact k4 j rfl hj ib nb (by omega) m2 p vy vn H3 (s12.trans s3) hp By Bn
    · rw [decide_eq_false c0]
      refine iteT ?_
      exact k3 ib nb c0 H2 s12
end
end Nu
namespace Nu
open PySem PySem.Spec PyProof.Rows L2
theorem op_catA_K {X : Cx} {K : PySem.W.Frag} (h : X.K = K) : OpR X (binaryOp .Add) (rCatA K) := h ▸ op_catA
def lof (xs : List Int) : Nat → Int := fun i => xs.getD i 0
theorem LI_lof (xs : List Int) : LI (lof xs) xs.length = xs := by
  refine List.ext_getElem? fun i => ?_
  by_cases h : i < xs.length
  · rw [LI_at _ h]
    unfold lof
    rw [List.getD_eq_getElem?_getD, List.getElem?_eq_getElem h]
    rfl
  · rw [List.getElem?_eq_none (by rw [LI_len]; omega), List.getElem?_eq_none (by omega)]
theorem lof_at {xs : List Int} {i : Nat} {x : Int} (h : xs[i]? = some x) : lof xs i = x := by
  unfold lof
  rw [List.getD_eq_getElem?_getD, h]
  rfl
theorem snoc_at {α : Type} {xs : List α} {x y : α} {j : Nat} (h : (xs ++ [x])[j]? = some y) : (xs[j]? = some y ∧ j < xs.length) ∨ (j = xs.length ∧ y = x) := by
  by_cases c : j < xs.length
  · rw [List.getElem?_append_left c] at h
    exact .inl ⟨h, c⟩
  · rw [List.getElem?_append_right (by omega)] at h
    have z : j - xs.length = 0 := by
      by_cases z : j - xs.length = 0
      · exact z
      · rw [List.getElem?_eq_none (by simp; omega)] at h
        cases h
    rw [z] at h
    cases h
    exact .inr ⟨by omega, rfl⟩
theorem sum_le7 : ∀ (xs : List Int), (∀ x ∈ xs, 0 ≤ x ∧ x ≤ 7) → 0 ≤ xs.sum ∧ xs.sum ≤ 7 * (xs.length : Int)
  | [], _ => by simp
  | x :: r, h => by
    have h1 := sum_le7 r fun y hy => h y (List.mem_cons_of_mem _ hy)
    have h2 := h x List.mem_cons_self
    rw [List.sum_cons, List.length_cons]
    omega
/-- the numbers of a drawn box -/
def BxL (xs ys : List Int) : Prop := ∀ (j : Nat) (x y : Int), xs[j]? = some x → ys[j]? = some y → 0 ≤ x ∧ x ≤ y ∧ y ≤ 7
section
variable {P : Program} {w : World} {K : PySem.W.Frag} {mg : Str → Option Value} {base : Heap} {a : Ad} {fd : Fd}
def spBox (K : PySem.W.Frag) : Sp := fun vs H Q _ => ∃ (s sc : Addr) (ns : List Int), vs = [.ref s] ∧ Drw K H s sc ns ∧
  ∀ v lw hg n c H', isB lw hg n n → cOk c → Keep [s] H H' → Drw K H' s sc ns → BoxH H' v lw hg n n c → Q v H'
theorem ok_l_box (T : Txt K mg a fd) : FnOk P w K mg base CX0 2 a.l_box fd.l_box ["_law_state"] (spBox K) := by
  have G_l_drawn := ok_l_drawn (P := P) (w := w) (base := base) T
  refine T.F_l_box.ok sc_l_box (fun vs H Q E h => ?_) (fun cdv A outer s0 H vs Q E hr h => ?_)
  · obtain ⟨s, sc, ns, rfl, _⟩ := h
    rfl
  · obtain ⟨s, sc, ns, rfl, D, k⟩ := h
    have hu := hu_of hr
    refine ⟨_, (pss_cons (ps_set (i := 1) sc_l_box.nd rfl (Or.inl rfl) (pe_op op_add pe_int (pe_call G_l_drawn (hr.mono (by decide)) (by rfl) T.g_l_drawn T.F_l_drawn.kp T.b_l_drawn .nil pass0 (pa_cons (pv 0) (pa_cons pe_int pa_nil)))))
    (pss_cons (ps_set (i := 2) sc_l_box.nd rfl (Or.inl rfl) (pe_ix ix_list (pe_lst (pa_cons pe_int (pa_cons pe_int (pa_cons pe_int pa_nil)))) (pe_op op_sub (pv 1) pe_int) (fun _ _ => rfl)))
    (pss_cons (ps_set (i := 3) sc_l_box.nd rfl (Or.inl rfl) (pe_lst pa_nil))
    (pss_cons (ps_set (i := 4) sc_l_box.nd rfl (Or.inl rfl) (pe_lst pa_nil))
    (pss_cons (ps_for PassesOwn.never rfl (pi_range1 (by rfl) T.n_range (pa_cons (pv 1) pa_nil)) (pg_name (i := 5) sc_l_box.nd rfl (Or.inl rfl))
      (pss_cons (ps_set (i := 6) sc_l_box.nd rfl (Or.inl rfl) (pe_op op_mul (pe_call G_l_drawn (hr.mono (by decide)) (by rfl) T.g_l_drawn T.F_l_drawn.kp T.b_l_drawn .nil pass0 (pa_cons (pv 0) (pa_cons pe_int pa_nil))) (pe_call G_l_drawn (hr.mono (by decide)) (by rfl) T.g_l_drawn T.F_l_drawn.kp T.b_l_drawn .nil pass0 (pa_cons (pv 0) (pa_cons pe_int pa_nil)))))
    (pss_cons (ps_expr (pe_bm PySem.F.plainAttrs_list PySem.F.slot_list_append PySem.F.type_list_append mt_append (pv 3) (pa_cons (pv 6) pa_nil)))
    (pss_one (ps_expr (pe_bm PySem.F.plainAttrs_list PySem.F.slot_list_append PySem.F.type_list_append mt_append (pv 4) (pa_cons (pe_callB (call_min2 rfl) (by rfl) T.n_min (by decide +kernel) (pa_cons pe_int (pa_cons (pe_op op_add (pv 6) (pe_call G_l_drawn (hr.mono (by decide)) (by rfl) T.g_l_drawn T.F_l_drawn.kp T.b_l_drawn .nil pass0 (pa_cons (pv 0) (pa_cons (pv 2) pa_nil)))) pa_nil))) pa_nil)))))))
    (pss_cons (ps_set (i := 7) sc_l_box.nd rfl (Or.inl rfl) (pe_callB (cr_sum rfl) (by rfl) T.n_sum (by decide +kernel) (pa_cons (pe_lc (own := [("_law_low", 6), ("_law_high", 8)]) (g := (gTup K 2 (gCons (gName 6) (gCons (gName 8) gNil)))) (by rfl) sc_l_box.nd (RZ.pi_zipA (by rfl) T.n_zip (pa_cons (pv 3) (pa_cons (pv 4) pa_nil))) (blkOk_by (own := [("_law_low", 6), ("_law_high", 8)]) (N := ["_law_state", "_law_many", "_law_wide", "_law_lows", "_law_highs", "_law_k", "_law_low", "_law_some", "_law_high", "_law_total"]) (sc := defScope s_l_box) (by decide +kernel)) (fun _ _ _ _ _ => pg_tupK (K := K) rfl (by rfl) (pgs_cons (pg_name (i := 6) sc_l_box.nd rfl (Or.inl rfl)) (pgs_cons (pg_name (i := 8) sc_l_box.nd rfl (Or.inl rfl)) pgs_nil))) (fun _ _ _ _ _ => pts_nil) (fun _ _ _ _ _ => (pe_op op_add (pv 6) (pe_call G_l_drawn (hr.mono (by decide)) (by rfl) T.g_l_drawn T.F_l_drawn.kp T.b_l_drawn .nil pass0 (pa_cons (pv 0) (pa_cons (pe_op op_add (pe_op op_sub (pv 8) (pv 6)) pe_int) pa_nil)))))) pa_nil)))
    (pss_cons (ps_set (i := 9) sc_l_box.nd rfl (Or.inl rfl) (pe_ix ix_list (pe_lst (pa_cons pe_non (pa_cons (pv 7) (pa_cons (pv 7) (pa_cons (pv 7) pa_nil))))) (pe_call G_l_drawn (hr.mono (by decide)) (by rfl) T.g_l_drawn T.F_l_drawn.kp T.b_l_drawn .nil pass0 (pa_cons (pv 0) (pa_cons pe_int pa_nil))) (fun _ _ => rfl)))
    (pss_cons (ps_if (pt_cmpR op_eq (pe_call G_l_drawn (hr.mono (by decide)) (by rfl) T.g_l_drawn T.F_l_drawn.kp T.b_l_drawn .nil pass0 (pa_cons (pv 0) (pa_cons pe_int pa_nil))) pe_int (nomark _)) (pss_one (ps_set (i := 9) sc_l_box.nd rfl (Or.inl rfl) (pe_ix ix_list (pe_lst (pa_cons (pe_op op_sub pe_int pe_int) (pa_cons (pe_op op_sub (pe_callB (cr_sum rfl) (by rfl) T.n_sum (by decide +kernel) (pa_cons (pv 3) pa_nil)) pe_int) (pa_cons (pe_op op_add (pe_callB (cr_sum rfl) (by rfl) T.n_sum (by decide +kernel) (pa_cons (pv 4) pa_nil)) pe_int) (pa_cons (pe_op op_pow pe_int pe_int) pa_nil))))) (pe_call G_l_drawn (hr.mono (by decide)) (by rfl) T.g_l_drawn T.F_l_drawn.kp T.b_l_drawn .nil pass0 (pa_cons (pv 0) (pa_cons pe_int pa_nil))) (fun _ _ => rfl)))) pss_nil)
    (pss_one (ps_ret (pe_tup (pa_cons (pe_callTy call_tuple_of (by rfl) T.n_tuple (by decide +kernel) (pa_cons (pv 3) pa_nil)) (pa_cons (pe_callTy call_tuple_of (by rfl) T.n_tuple (by decide +kernel) (pa_cons (pv 4) pa_nil)) (pa_cons (pv 9) pa_nil)))))))))))))), ?_⟩
    refine ⟨_, rfl, s, sc, ns, 3, rfl, D, by decide, by decide, fun x1 H1 a1 b1 k1 D1 => ⟨_, _, rfl, rfl, ?_⟩⟩
    obtain ⟨n, hn⟩ := Int.eq_ofNat_of_zero_le (show 0 ≤ 1 + x1 by omega)
    have n1 : 1 ≤ n := by omega
    have n3 : n ≤ 3 := by omega
    show gName 1 (V.int (1 + x1)) _ _ _
    rw [hn]
    refine gName_go ?_
    refine next_go ?_
    refine seq_go ?_
    refine ⟨(by show 3 ≤ sizeLine; decide), fun l1 nl1 => ?_⟩
    obtain ⟨wd, ewd, w1, w2⟩ : ∃ wd : Int, atI [V.int 8, V.int 6, V.int 4] ((n : Int) - 1) = some (.int wd) ∧ 1 ≤ wd ∧ wd ≤ 8 := by
      have : n = 1 ∨ n = 2 ∨ n = 3 := by omega
      rcases this with rfl | rfl | rfl
      · exact ⟨8, rfl, by decide, by decide⟩
      · exact ⟨6, rfl, by decide, by decide⟩
      · exact ⟨4, rfl, by decide, by decide⟩
    refine ⟨_, rfl, _, _, rfl, rfl, l1, _, _, _, rfl, rfl, SqL.of upd_same, ewd, ?_⟩
    have D2 := D1.new (o := .lst [V.int 8, V.int 6, V.int 4]) nl1
    have k2 : Keep [s] H (upd H1 l1 (.lst [V.int 8, V.int 6, V.int 4])) := k1.trans (Keep.same (same_upd nl1))
    generalize upd H1 l1 (.lst [V.int 8, V.int 6, V.int 4]) = H2 at D2 k2 ⊢
    refine gName_go ?_
    refine next_go ?_
    refine seq_go ?_
    refine ⟨Nat.zero_le _, fun p np => ?_⟩
    refine gName_go ?_
    refine next_go ?_
    refine seq_go ?_
    refine ⟨Nat.zero_le _, fun q nq => ?_⟩
    refine gName_go ?_
    refine next_go ?_
    refine seq_go ?_
    have pq : p ≠ q := fun z => by rw [← z, upd_same] at nq; cases nq
    have np2 : H p = none := k2.free np (D2.ns np)
    have k4 : Keep [s] H (upd (upd H2 p (.lst [])) q (.lst [])) := (k2.trans (Keep.same (same_upd np))).trans (Keep.same (same_upd nq))
    have nq2 : H q = none := (k2.trans (Keep.same (same_upd np))).free nq ((D2.new np).ns nq)
    have D4 := (D2.new (o := .lst ([] : List V)) np).new (o := .lst ([] : List V)) nq
    have hp4 : (upd (upd H2 p (.lst [])) q (.lst [])) p = some (.lst []) := same_upd nq _ _ upd_same
    have hq4 : (upd (upd H2 p (.lst [])) q (.lst [])) q = some (.lst []) := upd_same
    generalize upd (upd H2 p (.lst [])) q (.lst []) = H4 at D4 k4 hp4 hq4 ⊢
    have sp : s ≠ p := fun z => D2.ns np (by rw [z]; exact List.mem_singleton.mpr rfl)
    have sq : s ≠ q := fun z => (D2.new (o := .lst ([] : List V)) np).ns nq (by rw [z]; exact List.mem_singleton.mpr rfl)
    refine next_go ?_
    refine seq_go ?_
    refine ⟨_, rfl, _, rfl, by omega, by omega, ?_⟩
    refine for_range (lo := 0) (n := ((n : Int)).toNat) (fun i σ H' => ∃ (xs ys : List Int) (v5 v6 : Option V), σ = [some (.ref s), some (.int (n : Int)), some (.int wd), some (.ref p), some (.ref q), v5, v6, none, none, none] ∧ xs.length = i ∧ ys.length = i ∧ BxL xs ys ∧ Keep [s] H H' ∧ Drw K H' s sc ns ∧ H' p = some (.lst (xs.map V.int)) ∧ H' q = some (.lst (ys.map V.int)))
      ⟨[], [], none, none, rfl, rfl, rfl, fun j x y e => by simp at e, k4, D4, hp4, hq4⟩ ?_ ?_
    · rintro i σ H5 hi ⟨xs, ys, v5, v6, rfl, hx, hy, hb, k5, D5, hp5, hq5⟩
      refine gName_go ?_
      refine ⟨_, rfl, s, sc, ns, 3, rfl, D5, by decide, by decide, fun d1 H6 a6 b6 k6 D6 => ?_⟩
      refine ⟨_, rfl, s, sc, ns, 2, rfl, D6, by decide, by decide, fun d2 H7 a7 b7 k7 D7 => ⟨_, _, rfl, rfl, .inr ⟨by omega, by omega⟩, ?_⟩⟩
      obtain ⟨lo, elo, l0, l2⟩ : ∃ lo : Int, d1 * d2 = lo ∧ 0 ≤ lo ∧ lo ≤ 2 := by
        have : d2 = 0 ∨ d2 = 1 := by omega
        rcases this with rfl | rfl
        · exact ⟨0, by omega, by decide, by decide⟩
        · exact ⟨d1, by omega, by omega, by omega⟩
      show gName 6 (V.int (d1 * d2)) _ _ _
      rw [elo]
      refine gName_go ?_
      refine next_go ?_
      refine seq_go ?_
      have k57 := k6.trans k7
      have hp7 : H7 p = some (.lst (xs.map V.int)) := k57 _ _ hp5 (fun z => sp (List.mem_singleton.mp z).symm)
      have hq7 : H7 q = some (.lst (ys.map V.int)) := k57 _ _ hq5 (fun z => sq (List.mem_singleton.mp z).symm)
      refine ⟨_, rfl, .inl ⟨rfl, _, SqL.of hp7⟩, _, rfl, p, _, _, rfl, rfl, hp7, small1000 (by rw [List.length_map]; omega), ?_⟩
      have hq8 : (upd H7 p (.lst (xs.map V.int ++ [V.int lo]))) q = some (.lst (ys.map V.int)) := by rw [upd_ne (Ne.symm pq)]; exact hq7
      have hp8 : (upd H7 p (.lst (xs.map V.int ++ [V.int lo]))) p = some (.lst (xs.map V.int ++ [V.int lo])) := upd_same
      have k47 : Keep [s] H H7 := k5.trans k57
      have k8 : Keep [s] H (upd H7 p (.lst (xs.map V.int ++ [V.int lo]))) := fun c u e z => by
        rw [upd_ne (fun q => by rw [q, np2] at e; cases e)]
        exact k47 c u e z
      have D8 : Drw K (upd H7 p (.lst (xs.map V.int ++ [V.int lo]))) s sc ns := D.over k47 D7 np2
      generalize upd H7 p (.lst (xs.map V.int ++ [V.int lo])) = H8 at hq8 hp8 k8 D8 ⊢
      refine next_go ?_
      refine ⟨_, rfl, .inl ⟨rfl, _, SqL.of hq8⟩, _, rfl, _, rfl, _, rfl, s, sc, ns, wd, rfl, D8, by omega, by have := intOkS (x := wd) (by omega) (by omega); unfold IntOk at this; omega, fun d3 H9 a9 b9 k9 D9 => ?_⟩
      refine ⟨_, _, rfl, rfl, _, _, rfl, ?_⟩
      have hq9 : H9 q = some (.lst (ys.map V.int)) := k9 _ _ hq8 (fun z => sq (List.mem_singleton.mp z).symm)
      have hp9 : H9 p = some (.lst (xs.map V.int ++ [V.int lo])) := k9 _ _ hp8 (fun z => sp (List.mem_singleton.mp z).symm)
      obtain ⟨hi', ehi, h0, h7⟩ : ∃ hi' : Int, (if lo + d3 < 7 then lo + d3 else 7) = hi' ∧ lo ≤ hi' ∧ hi' ≤ 7 := by
        by_cases c : lo + d3 < 7
        · exact ⟨lo + d3, if_pos c, by omega, by omega⟩
        · exact ⟨7, if_neg c, by omega, by omega⟩
      refine ⟨q, _, _, rfl, rfl, hq9, small1000 (by rw [List.length_map]; omega), ?_⟩
      have k49 : Keep [s] H H9 := k8.trans k9
      refine ⟨xs ++ [lo], ys ++ [hi'], _, _, rfl, by rw [List.length_append, hx]; rfl, by rw [List.length_append, hy]; rfl, fun j x y e1 e2 => ?_, fun c u e z => ?_, D.over k49 D9 nq2, ?_, ?_⟩
      · rcases snoc_at e1 with ⟨e1, g1⟩ | ⟨g1, rfl⟩
        · rcases snoc_at e2 with ⟨e2, g2⟩ | ⟨g2, rfl⟩
          · exact hb j x y e1 e2
          · omega
        · rcases snoc_at e2 with ⟨e2, g2⟩ | ⟨g2, rfl⟩
          · omega
          · omega
      · rw [upd_ne (fun q => by rw [q, nq2] at e; cases e)]
        exact k49 c u e z
      · rw [upd_ne pq, hp9, List.map_append]
        rfl
      · rw [upd_same, List.map_append, ← ehi]
        rfl
    · rintro σ H5 ⟨xs, ys, v5, v6, rfl, hx, hy, hb, k5, D5, hp5, hq5⟩
      rw [Int.toNat_natCast] at hx hy
      have sp5 : ∀ {H6 : Hp}, Keep [s] H5 H6 → H6 p = some (.lst (xs.map V.int)) := fun {H6} kk => kk _ _ hp5 (fun z => sp (List.mem_singleton.mp z).symm)
      have sq5 : ∀ {H6 : Hp}, Keep [s] H5 H6 → H6 q = some (.lst (ys.map V.int)) := fun {H6} kk => kk _ _ hq5 (fun z => sq (List.mem_singleton.mp z).symm)
      refine next_go ?_
      refine seq_go ?_
      refine ⟨_, rfl, _, rfl, p, q, _, _, rfl, .inl ⟨SqL.of hp5, SqL.of hq5, fun D nD => ?_⟩⟩
      have kD : ∀ {H7 : Hp} {u : HO}, Keep [s] H5 H7 → Keep [s] H5 (upd H7 D u) := fun {H7 u} k7 c o e n => by
        rw [upd_ne (fun z => by rw [z, nD] at e; cases e)]
        exact k7 c o e n
      have sD : s ≠ D := fun z => D5.ns nD (by rw [z]; exact List.mem_singleton.mpr rfl)
      refine lc_it (walk_zip (n := n) (by rw [List.length_map, List.length_map]; omega)) (fun j H' => ∃ zs : List Int, zs.length = j ∧ (∀ z ∈ zs, 0 ≤ z ∧ z ≤ 7) ∧ Keep [s] H5 H' ∧ Drw K H' s sc ns ∧ H' D = some (.lst (zs.map V.int)))
        ⟨[], rfl, fun z h => by simp at h, Keep.same (same_upd nD), D5.new nD, upd_same⟩ (fun j H' _ ⟨zs, _, _, k6, _, _⟩ => ⟨SqL.of (sp5 k6), SqL.of (sq5 k6)⟩) ?_ ?_
      · rintro j x H6 H6' hj ⟨zs, hz, hzb, k6, D6, hD⟩ ⟨Tz, x1, y1, rfl, nT, rfl, e1, e2⟩
        have e1 : (xs.map V.int)[j]? = some x1 := e1
        have e2 : (ys.map V.int)[j]? = some y1 := e2
        obtain ⟨lo, e3, rfl⟩ := map_int_at e1
        obtain ⟨hh, e4, rfl⟩ := map_int_at e2
        have bb := hb j lo hh e3 e4
        have DT : D ≠ Tz := fun z => by rw [← z, hD] at nT; cases nT
        refine ⟨Tz, _, rfl, SqT.of upd_same, rfl, _, _, rfl, _, _, rfl, rfl, rfl, ?_⟩
        dsimp only [tYes]
        rw [if_pos rfl]
        have D7 := D6.new (o := .tup [V.int lo, V.int hh]) nT
        have k7 : Keep [s] H5 (upd H6 Tz (.tup [V.int lo, V.int hh])) := k6.trans (Keep.same (same_upd nT))
        have hD7 : (upd H6 Tz (.tup [V.int lo, V.int hh])) D = some (.lst (zs.map V.int)) := same_upd nT _ _ hD
        refine ⟨_, rfl, _, rfl, _, rfl, _, rfl, _, _, rfl, rfl, _, _, rfl, rfl, s, sc, ns, hh - lo + 1, rfl, D7, by omega, by have := intOkS (x := hh - lo + 1) (by omega) (by omega); unfold IntOk at this; omega, fun d H8 a8 b8 k8 D8 => ⟨_, _, rfl, rfl, ?_⟩⟩
        refine ⟨_, k8 _ _ hD7 (fun z => sD (List.mem_singleton.mp z).symm), small1000 (by rw [List.length_map]; omega), zs ++ [lo + d], by rw [List.length_append, hz]; rfl, fun z hzz => ?_, kD (k7.trans k8), D5.over (k7.trans k8) D8 nD, ?_⟩
        · rcases List.mem_append.mp hzz with h | h
          · exact hzb z h
          · rw [List.mem_singleton.mp h]
            omega
        · rw [upd_same, List.map_append]
          rfl
      · rintro H6 ⟨zs, hz, hzb, k6, D6, hD⟩
        refine ⟨D, zs, rfl, SqL.of hD, ?_⟩
        have sb := sum_le7 zs hzb
        rw [hz] at sb
        generalize zs.sum = tot at sb ⊢
        refine gName_go ?_
        refine next_go ?_
        refine seq_go ?_
        refine ⟨_, rfl, _, rfl, _, rfl, (by show 4 ≤ sizeLine; decide), fun l2 nl2 => ?_⟩
        have D7 := D6.new (o := .lst [V.non, V.int tot, V.int tot, V.int tot]) nl2
        have k7 : Keep [s] H5 (upd H6 l2 (.lst [V.non, V.int tot, V.int tot, V.int tot])) := k6.trans (Keep.same (same_upd nl2))
        refine ⟨_, rfl, s, sc, ns, 4, rfl, D7, by decide, by decide, fun d H8 a8 b8 k8 D8 => ?_⟩
        obtain ⟨c, ec, oc⟩ : ∃ c : Option Int, atI [V.non, V.int tot, V.int tot, V.int tot] d = some (cV c) ∧ cOk c := by
          have : d = 0 ∨ d = 1 ∨ d = 2 ∨ d = 3 := by omega
          rcases this with rfl | rfl | rfl | rfl
          · exact ⟨none, rfl, cOk_none⟩
          · exact ⟨some tot, rfl, cOk_of (by omega)⟩
          · exact ⟨some tot, rfl, cOk_of (by omega)⟩
          · exact ⟨some tot, rfl, cOk_of (by omega)⟩
        have hl2 := k8 _ _ upd_same (D6.ns nl2)
        refine ⟨l2, _, d, _, rfl, rfl, SqL.of hl2, ec, ?_⟩
        refine gName_go ?_
        dsimp only
        refine seq_go ?_
        have k8' : Keep [s] H5 H8 := k7.trans k8
        clear ec hl2 D7 k7 k8 hD
        refine ifS_join (fun σ' H' => ∃ c' : Option Int, σ' = [some (.ref s), some (.int (n : Int)), some (.int wd), some (.ref p), some (.ref q), v5, v6, some (.int tot), none, some (cV c')] ∧ cOk c' ∧ Keep [s] H5 H' ∧ Drw K H' s sc ns) (fun nx hnx => ?_) ?_
        · refine ⟨_, rfl, s, sc, ns, 12, rfl, D8, by decide, by decide, fun e H9 a9 b9 k9 D9 => ⟨rfl, _, rfl, ?_⟩⟩
          by_cases c1 : e = 11
          · rw [deqI c1]
            refine iteT ?_
            have k59 : Keep [s] H5 H9 := k8'.trans k9
            refine ⟨_, _, rfl, rfl, ?_⟩
            refine ⟨_, rfl, p, xs, rfl, SqL.of (sp5 k59), _, _, rfl, rfl, ?_⟩
            refine ⟨_, rfl, q, ys, rfl, SqL.of (sq5 k59), _, _, rfl, rfl, ?_⟩
            refine ⟨_, _, rfl, rfl, ⟨by decide, by decide, by decide⟩, (by show 4 ≤ sizeLine; decide), fun l3 nl3 => ?_⟩
            have D10 := D9.new (o := .lst [V.int (0 - 1), V.int (xs.sum - 1), V.int (ys.sum + 1), V.int ((10 : Int) ^ (59 : Int).toNat)]) nl3
            refine ⟨_, rfl, s, sc, ns, 4, rfl, D10, by decide, by decide, fun f H11 a11 b11 k11 D11 => ?_⟩
            have xb : ∀ x ∈ xs, 0 ≤ x ∧ x ≤ 7 := fun x hxm => by
              obtain ⟨j, hj, rfl⟩ := List.getElem_of_mem hxm
              have := hb j _ _ (List.getElem?_eq_getElem hj) (List.getElem?_eq_getElem (by omega))
              omega
            have yb : ∀ x ∈ ys, 0 ≤ x ∧ x ≤ 7 := fun x hxm => by
              obtain ⟨j, hj, rfl⟩ := List.getElem_of_mem hxm
              have := hb j _ _ (List.getElem?_eq_getElem (by omega)) (List.getElem?_eq_getElem hj)
              omega
            have sx := sum_le7 xs xb
            have sy := sum_le7 ys yb
            rw [hx] at sx
            rw [hy] at sy
            obtain ⟨g, eg, og⟩ : ∃ g : Int, atI [V.int (0 - 1), V.int (xs.sum - 1), V.int (ys.sum + 1), V.int ((10 : Int) ^ (59 : Int).toNat)] f = some (V.int g) ∧ IntOk g := by
              have : f = 0 ∨ f = 1 ∨ f = 2 ∨ f = 3 := by omega
              rcases this with rfl | rfl | rfl | rfl
              · exact ⟨_, rfl, log_abs rfl (by decide)⟩
              · exact ⟨_, rfl, log_abs rfl (by omega)⟩
              · exact ⟨_, rfl, log_abs rfl (by omega)⟩
              · exact ⟨_, rfl, intOk59 (by decide +kernel) (by decide +kernel)⟩
            refine ⟨l3, _, f, _, rfl, rfl, SqL.of (k11 _ _ upd_same (D9.ns nl3)), eg, ?_⟩
            refine gName_go ?_
            exact hnx _ _ ⟨some g, rfl, cOk_int og, (k59.trans (Keep.same (same_upd nl3))).trans k11, D11⟩
          · rw [dneI c1]
            refine iteF ?_
            refine next_go ?_
            exact hnx _ _ ⟨c, rfl, oc, k8'.trans k9, D9⟩
        · rintro σ' H9 ⟨c', rfl, oc', k9, D9⟩
          have hp9 := sp5 k9
          have hq9 := sq5 k9
          refine next_go ?_
          refine ⟨_, rfl, p, _, rfl, .inl ⟨SqL.of hp9, fun t1 nt1 => ?_⟩⟩
          have s1 : Same H9 (upd H9 t1 (.tup (xs.map V.int))) := same_upd nt1
          refine ⟨_, rfl, q, _, rfl, .inl ⟨SqL.of (s1 _ _ hq9), fun t2 nt2 => ?_⟩⟩
          have s2 := s1.trans (same_upd (o := .tup (ys.map V.int)) nt2)
          refine ⟨_, rfl, (by show 3 ≤ sizeLine; decide), fun t3 nt3 => ?_⟩
          have s3 := s2.trans (same_upd (o := .tup [V.ref t1, V.ref t2, cV c']) nt3)
          have ex : LI (lof xs) n = xs := by rw [← hx, LI_lof]
          have ey : LI (lof ys) n = ys := by rw [← hy, LI_lof]
          refine k _ (lof xs) (lof ys) n c' _ ⟨rfl, n1, n3, fun i hi => ?_⟩ oc' ((k5.trans k9).trans (Keep.same s3)) (D9.same s3) ⟨t3, t1, t2, rfl, upd_same, ?_, ?_⟩
          · have e1 : xs[i]? = some (xs[i]'(by omega)) := List.getElem?_eq_getElem _
            have e2 : ys[i]? = some (ys[i]'(by omega)) := List.getElem?_eq_getElem _
            rw [lof_at e1, lof_at e2]
            exact hb i _ _ e1 e2
          · rw [ex]
            exact same_upd nt3 _ _ (same_upd nt2 _ _ upd_same)
          · rw [ey]
            exact same_upd nt3 _ _ upd_same
end
end Nu
namespace Nu
open PySem PySem.Spec PyProof.Rows L2
theorem ext1_snoc (p : List Int) (vs : List Int) (v : Int) : ext1 p (vs ++ [v]) = ext1 p vs ++ [p ++ [v]] := by
  unfold ext1
  rw [List.map_append]
  rfl
theorem TL.app {H : Hp} {ts us : List Addr} {ws xs : List (List Int)} (h : TL H ts ws) (g : TL H us xs) : TL H (ts ++ us) (ws ++ xs) := by
  refine ⟨by rw [List.length_append, List.length_append, h.len, g.len], fun i t x e f => ?_⟩
  have l := h.len
  by_cases c : i < ts.length
  · rw [List.getElem?_append_left c] at e
    rw [List.getElem?_append_left (by omega)] at f
    exact h.at_ i t x e f
  · rw [List.getElem?_append_right (by omega)] at e
    rw [List.getElem?_append_right (by omega), ← l] at f
    exact g.at_ _ t x e f
section
variable {P : Program} {w : World} {K : PySem.W.Frag} {mg : Str → Option Value} {base : Heap} {a : Ad} {fd : Fd}
def spLonger : Sp := fun vs H Q _ => ∃ (r : Addr) (ts : List Addr) (ws : List (List Int)) (lo hi : Int), vs = [.ref r, .int lo, .int hi] ∧ H r = some (.lst (ts.map V.ref)) ∧ TL H ts ws ∧ (∀ x ∈ ws, x.length ≤ 10) ∧ 0 ≤ lo ∧ lo ≤ hi ∧ hi ≤ 7 ∧ ws.length * 8 ≤ 900 ∧
  ∀ r' ts' H', Same H H' → H r' = none → H' r' = some (.lst (ts'.map V.ref)) → TL H' ts' (ws.flatMap fun p => ext1 p (rng lo hi)) → Q (.ref r') H'
theorem ok_l_longer (T : Txt K mg a fd) : FnOk P w K mg base CX0 1 a.l_longer fd.l_longer ["_law_found", "_law_low", "_law_high"] spLonger := by
  refine T.F_l_longer.ok sc_l_longer (fun vs H Q E h => ?_) (fun cdv A outer s0 H vs Q E hr h => ?_)
  · obtain ⟨r, ts, ws, lo, hi, rfl, _⟩ := h
    rfl
  · obtain ⟨r, ts, ws, lo, hi, rfl, hr1, hT, hlen, b1, b2, b3, b4, k⟩ := h
    have hu := hu_of hr
    refine ⟨_, (pss_cons (ps_set (i := 3) sc_l_longer.nd rfl (Or.inl rfl) (pe_lst pa_nil))
    (pss_cons (ps_for PassesOwn.never rfl (pi_list (pv 0)) (pg_name (i := 4) sc_l_longer.nd rfl (Or.inr rfl))
      (pss_one (ps_expr (pe_bm PySem.F.plainAttrs_list PySem.F.slot_list_extend PySem.F.type_list_extend mt_extend (pv 3) (pa_cons (pe_lc (own := [("_law_many", 5)]) (g := gName 5) (by rfl) sc_l_longer.nd (pi_range2 (by rfl) T.n_range (pa_cons (pv 1) (pa_cons (pe_op op_add (pv 2) pe_int) pa_nil))) (blkOk_by (own := [("_law_many", 5)]) (N := ["_law_found", "_law_low", "_law_high", "_law_longer_here", "_law_world", "_law_many"]) (sc := defScope s_l_longer) (by decide +kernel)) (fun _ _ _ _ _ => pg_name (i := 5) sc_l_longer.nd rfl (Or.inl rfl)) (fun _ _ _ _ _ => pts_nil) (fun _ _ _ _ _ => (pe_op (op_catA_K (K := K) rfl) (pv 4) (pe_tup (pa_cons (pv 5) pa_nil))))) pa_nil)))))
    (pss_one (ps_ret (pv 3))))), ?_⟩
    refine ⟨Nat.zero_le _, fun q nq => ?_⟩
    refine gName_go ?_
    dsimp only
    refine seq_go ?_
    have rq : r ≠ q := fun z => by rw [z, nq] at hr1; cases hr1
    have tl := hT.len
    refine ⟨_, rfl, r, rfl, ⟨_, SqL.of (same_upd nq _ _ hr1)⟩, for_list (K := K) (a := r) (xs := ts.map V.ref) (fun i σ H' => ∃ (ts' : List Addr) (v4 : Option V), σ = [some (.ref r), some (.int lo), some (.int hi), some (.ref q), v4, none] ∧ Same H H' ∧ H' q = some (.lst (ts'.map V.ref)) ∧ TL H' ts' ((ws.take i).flatMap fun p => ext1 p (rng lo hi)))
      ⟨[], none, rfl, same_upd nq, upd_same, TL.nil _⟩ (fun i σ H' _ ⟨_, _, _, s1, _⟩ => SqL.of (s1 _ _ hr1)) ?_ ?_⟩
    · rintro i x σ H1 hx ⟨ts', v4, rfl, s1, hq, hT1⟩
      rw [List.getElem?_map] at hx
      obtain ⟨t, et, rfl⟩ := Option.map_eq_some_iff.mp hx
      obtain ⟨p, ep, ht⟩ := hT.get et
      have hi' : i < ws.length := (List.getElem?_eq_some_iff.mp ep).1
      have pl : p.length ≤ 10 := hlen p (List.mem_of_getElem? ep)
      have tk : ws.take (i + 1) = ws.take i ++ [p] := by
        rw [List.take_add_one, ep]
        rfl
      have l1 : ((ws.take i).flatMap fun p => ext1 p (rng lo hi)).length ≤ (ws.take i).length * 8 := flat_len _ fun x _ => by
        unfold ext1
        rw [List.length_map, rng_len]
        omega
      have l2 : (ws.take i).length ≤ i := by rw [List.length_take]; omega
      have l3 := hT1.len
      refine gName_go ?_
      refine ⟨_, rfl, .inl ⟨rfl, _, SqL.of hq⟩, ?_⟩
      refine ⟨_, rfl, _, rfl, _, _, rfl, rfl, _, _, rfl, ⟨by omega, by omega, by omega, by omega⟩, fun D nD => ?_⟩
      refine lc_range (lo := lo) (n := (hi + 1 - lo).toNat) (fun j H' => Same H1 H' ∧ ∃ ts2 : List Addr, H' D = some (.lst (ts2.map V.ref)) ∧ TL H' ts2 (ext1 p (LI (fun i => lo + (i : Int)) j)))
        ⟨same_upd nD, [], upd_same, TL.nil _⟩ ?_ ?_
      · rintro j H2 hj ⟨s2, ts2, hD, hT2⟩
        refine ⟨wipe1 _ _ _, ?_⟩
        dsimp only [tYes]
        rw [if_pos rfl]
        have ht2 := s2 _ _ (s1 _ _ ht)
        refine ⟨_, rfl, _, rfl, (by show 1 ≤ sizeLine; decide), fun u nu => ?_⟩
        have s3 : Same H2 (upd H2 u (.tup [V.int (lo + (j : Int))])) := same_upd nu
        refine cat_go (s3 _ _ ht2) upd_same (by rw [List.length_map, List.length_singleton]; omega) fun z H3 s4 hz => ?_
        have s24 := s3.trans s4
        have hD3 := s24 _ _ hD
        have Dz : D ≠ z := fun q => by rw [← q, hD3] at hz; cases hz
        have l4 := hT2.len
        unfold ext1 at l4
        rw [List.length_map, LI_len] at l4
        refine ⟨_, hD3, small1000 (by rw [List.length_map]; omega), fun c u e => ?_, ts2 ++ [z], ?_, ?_⟩
        · rw [upd_ne (fun z => by rw [z, nD] at e; cases e)]
          exact s24 c u (s2 c u e)
        · rw [upd_same, List.map_append]
          rfl
        · rw [LI_succ, ext1_snoc]
          refine TL.put ((hT2.same s24).snoc ?_) (.inl ⟨_, hD3⟩)
          rw [List.map_append]
          exact hz
      · rintro H2 ⟨s2, ts2, hD, hT2⟩
        have hq2 := s2 _ _ hq
        have l4 := hT2.len
        unfold ext1 at l4
        rw [List.length_map, LI_len] at l4
        refine ⟨q, D, _, _, rfl, rfl, hq2, hD, Nat.le_of_lt (small1000 (by rw [List.length_map, List.length_map]; omega)), ?_⟩
        refine ⟨ts' ++ ts2, _, rfl, fun c u e => ?_, ?_, ?_⟩
        · rw [upd_ne (fun z => by rw [z, nq] at e; cases e)]
          exact s2 c u (s1 c u e)
        · rw [upd_same, List.map_append]
        · rw [tk, flat_snoc]
          refine TL.put ?_ (.inl ⟨_, hq2⟩)
          exact (hT1.same s2).app hT2
    · rintro σ H1 ⟨ts', v4, rfl, s1, hq, hT1⟩
      rw [List.length_map, tl, List.take_length] at hT1
      exact ⟨_, rfl, k q ts' H1 s1 nq hq hT1⟩
end
end Nu
namespace Nu
open PySem PySem.Spec PyProof.Rows L2
theorem wAll_len8 {lw hg : Nat → Int} : ∀ n : Nat, (∀ i, i < n → 0 ≤ lw i ∧ hg i ≤ 7) → (wAll lw hg n).length ≤ 8 ^ n
  | 0, _ => Nat.le_refl _
  | n + 1, h => by
    have h1 := wAll_len8 n fun i hi => h i (by omega)
    have h2 := h n (by omega)
    have h3 : (wAll lw hg (n + 1)).length ≤ (wAll lw hg n).length * 8 := flat_len _ fun x _ => by
      unfold ext1
      rw [List.length_map, rng_len]
      omega
    rw [Nat.pow_succ]
    omega
theorem wAll_el {lw hg : Nat → Int} {n : Nat} {x : List Int} (h : x ∈ wAll lw hg n) : x.length = n := by
  obtain ⟨f, rfl, _⟩ := mem_wAll.mp h
  exact LI_len _ _
section
variable {P : Program} {w : World} {K : PySem.W.Frag} {mg : Str → Option Value} {base : Heap} {a : Ad} {fd : Fd}
def spOf : Sp := fun vs H Q _ => ∃ (p q : Addr) (lw hg : Nat → Int) (n : Nat) (c : Option Int), vs = [.ref p, .ref q, cV c] ∧ H p = some (.tup ((LI lw n).map V.int)) ∧ H q = some (.tup ((LI hg n).map V.int)) ∧ n ≤ 3 ∧ (∀ i, i < n → 0 ≤ lw i ∧ lw i ≤ hg i ∧ hg i ≤ 7) ∧
  ∀ r ts H', Same H H' → H r = none → H' r = some (.lst (ts.map V.ref)) → TL H' ts ((wAll lw hg n).filter (okC c)) → Q (.ref r) H'
theorem ok_l_of (T : Txt K mg a fd) : FnOk P w K mg base CX0 2 a.l_of fd.l_of ["_law_lows", "_law_highs", "_law_total"] spOf := by
  have G_l_longer := ok_l_longer (P := P) (w := w) (base := base) T
  refine T.F_l_of.ok sc_l_of (fun vs H Q E h => ?_) (fun cdv A outer s0 H vs Q E hr h => ?_)
  · obtain ⟨p, q, lw, hg, n, c, rfl, _⟩ := h
    rfl
  · obtain ⟨p, q, lw, hg, n, c, rfl, hp, hq, n3, hb, k⟩ := h
    have hu := hu_of hr
    refine ⟨_, (pss_cons (ps_set (i := 3) sc_l_of.nd rfl (Or.inl rfl) (pe_lst (pa_cons (pe_tup pa_nil) pa_nil)))
    (pss_cons (ps_for PassesOwn.never rfl (RZ.pi_zipA (by rfl) T.n_zip (pa_cons (pv 0) (pa_cons (pv 1) pa_nil))) (pg_tup (by rfl) (pgs_cons (pg_name (i := 4) sc_l_of.nd rfl (Or.inl rfl)) (pgs_cons (pg_name (i := 5) sc_l_of.nd rfl (Or.inl rfl)) pgs_nil)))
      (pss_one (ps_set (i := 3) sc_l_of.nd rfl (Or.inl rfl) (pe_call G_l_longer (hr.mono (by decide)) (by rfl) T.g_l_longer T.F_l_longer.kp T.b_l_longer .nil pass0 (pa_cons (pv 3) (pa_cons (pv 4) (pa_cons (pv 5) pa_nil)))))))
    (pss_one (ps_ret (pe_lc (own := [("_law_world", 6)]) (g := gName 6) (by rfl) sc_l_of.nd (pi_list (pv 3)) (blkOk_by (own := [("_law_world", 6)]) (N := ["_law_lows", "_law_highs", "_law_total", "_law_found", "_law_low", "_law_high", "_law_world"]) (sc := defScope s_l_of) (by decide +kernel)) (fun _ _ _ _ _ => pg_name (i := 6) sc_l_of.nd rfl (Or.inl rfl)) (fun _ _ _ _ _ => (pts_one (PW.pt (pw_or (pt_cmpR op_isN (pv 2) pe_non (nomark _)) (pw_or1 (pt_cmpR op_eq (pe_callB (cr_sumT_K (K := K) rfl rfl) (by rfl) T.n_sum (by decide +kernel) (pa_cons (pv 6) pa_nil)) (pv 2) (nomark _))))))) (fun _ _ _ _ _ => (pv 6))))))), ?_⟩
    refine ⟨Nat.zero_le _, fun e0 ne0 => ?_⟩
    refine ⟨(by show 1 ≤ sizeLine; decide), fun r0 nr0 => ?_⟩
    refine gName_go ?_
    dsimp only
    refine seq_go ?_
    have s0 : Same H (upd (upd H e0 (.tup [])) r0 (.lst [V.ref e0])) := (same_upd ne0).trans (same_upd nr0)
    have er : e0 ≠ r0 := fun z => by rw [← z, upd_same] at nr0; cases nr0
    have h0 : (upd (upd H e0 (.tup [])) r0 (.lst [V.ref e0])) e0 = some (.tup []) := by rw [upd_ne er]; exact upd_same
    have hr0 : (upd (upd H e0 (.tup [])) r0 (.lst [V.ref e0])) r0 = some (.lst [V.ref e0]) := upd_same
    have nr0' : H r0 = none := (same_upd ne0).free nr0
    generalize upd (upd H e0 (.tup [])) r0 (.lst [V.ref e0]) = H0 at s0 h0 hr0 ⊢
    refine ⟨_, rfl, _, rfl, p, q, _, _, rfl, .inr ⟨SqT.of (s0 _ _ hp), SqT.of (s0 _ _ hq), ?_⟩⟩
    refine RZ.for_zipT (K := K) (a := p) (b := q) (xs := (LI lw n).map V.int) (ys := (LI hg n).map V.int) (by rw [List.length_map, List.length_map, LI_len, LI_len]) (fun i σ H' => ∃ (r : Addr) (ts : List Addr) (v4 v5 : Option V), σ = [some (.ref p), some (.ref q), some (cV c), some (.ref r), v4, v5, none] ∧ Same H H' ∧ H r = none ∧ H' r = some (.lst (ts.map V.ref)) ∧ TL H' ts (wAll lw hg i))
      ⟨r0, [e0], none, none, rfl, s0, nr0', hr0, (TL.nil _).snoc h0⟩ (fun i σ H' ⟨_, _, _, _, _, s1, _⟩ => ⟨SqT.of (s1 _ _ hp), SqT.of (s1 _ _ hq)⟩) ?_ ?_
    · rintro i x y Tz σ H1 hx hy ⟨r, ts, v4, v5, rfl, s1, nr, hr1, hT⟩ nT
      have hi : i < n := by
        have := (List.getElem?_eq_some_iff.mp hx).1
        rw [List.length_map, LI_len] at this
        exact this
      rw [List.getElem?_map, LI_at _ hi] at hx hy
      cases hx
      cases hy
      have bi := hb i hi
      have wl := wAll_len8 (lw := lw) (hg := hg) i fun j hj => by
        have := hb j (by omega)
        exact ⟨this.1, this.2.2⟩
      have p8 : 8 ^ i ≤ 64 := by
        have : i = 0 ∨ i = 1 ∨ i = 2 := by omega
        rcases this with rfl | rfl | rfl <;> decide
      have s2 : Same H1 (upd H1 Tz (.tup [V.int (lw i), V.int (hg i)])) := same_upd nT
      refine ⟨Tz, _, rfl, SqT.of upd_same, rfl, _, _, rfl, _, _, rfl, rfl, ?_⟩
      refine ⟨_, rfl, _, rfl, _, rfl, r, ts, _, lw i, hg i, rfl, s2 _ _ hr1, hT.same s2, fun x hx => by have := wAll_el hx; omega, bi.1, bi.2.1, bi.2.2, by omega, fun r' ts' H3 s3 nr' hr' hT' => ?_⟩
      refine gName_go ?_
      exact ⟨r', ts', _, _, rfl, (s1.trans s2).trans s3, (s1.trans s2).free nr', hr', hT'⟩
    · rintro σ H1 ⟨r, ts, v4, v5, rfl, s1, nr, hr1, hT⟩
      rw [List.length_map, LI_len] at hT
      have tl := hT.len
      have wl := wAll_len8 (lw := lw) (hg := hg) n fun j hj => by
        have := hb j (by omega)
        exact ⟨this.1, this.2.2⟩
      have p8 : 8 ^ n ≤ 512 := by
        have : n = 0 ∨ n = 1 ∨ n = 2 ∨ n = 3 := by omega
        rcases this with rfl | rfl | rfl | rfl <;> decide
      refine next_go ?_
      refine ⟨_, rfl, r, rfl, ⟨_, SqL.of hr1⟩, fun D nD => lc_list (K := K) (a := r) (xs := ts.map V.ref) (fun j H' => Same H1 H' ∧ ∃ ts2 : List Addr, H' D = some (.lst (ts2.map V.ref)) ∧ TL H' ts2 (((wAll lw hg n).take j).filter (okC c)))
        ⟨same_upd nD, [], upd_same, TL.nil _⟩ (fun j H' _ ⟨s2, _⟩ => SqL.of (s2 _ _ hr1)) ?_ ?_⟩
      · rintro j x H2 hx ⟨s2, ts2, hD, hT2⟩
        rw [List.getElem?_map] at hx
        obtain ⟨t, et, rfl⟩ := Option.map_eq_some_iff.mp hx
        obtain ⟨wd, ew, ht⟩ := hT.get et
        have tk : (wAll lw hg n).take (j + 1) = (wAll lw hg n).take j ++ [wd] := by
          rw [List.take_add_one, ew]
          rfl
        have ht2 := s2 _ _ ht
        have l4 := hT2.len
        have l5 := List.length_filter_le (okC c) ((wAll lw hg n).take j)
        rw [List.length_take] at l5
        refine ⟨wipe1 _ _ _, ?_⟩
        have go : ∀ b : Bool, okC c wd = b → (if b = true then ∃ acc, H2 D = some (.lst acc) ∧ acc.length < sizeLine ∧ (Same H1 (upd H2 D (.lst (acc ++ [V.ref t]))) ∧ ∃ ts2 : List Addr, (upd H2 D (.lst (acc ++ [V.ref t]))) D = some (.lst (ts2.map V.ref)) ∧ TL (upd H2 D (.lst (acc ++ [V.ref t]))) ts2 (((wAll lw hg n).take (j + 1)).filter (okC c))) else Same H1 H2 ∧ ∃ ts2 : List Addr, H2 D = some (.lst (ts2.map V.ref)) ∧ TL H2 ts2 (((wAll lw hg n).take (j + 1)).filter (okC c))) := by
          intro b eb
          cases b with
          | true =>
            refine iteT ⟨_, hD, small1000 (by rw [List.length_map]; omega), fun c u e => ?_, ts2 ++ [t], ?_, ?_⟩
            · rw [upd_ne (fun z => by rw [z, nD] at e; cases e)]
              exact s2 c u e
            · rw [upd_same, List.map_append]
              rfl
            · rw [tk, List.filter_append, List.filter_cons_of_pos eb]
              exact TL.put (hT2.snoc ht2) (.inl ⟨_, hD⟩)
          | false =>
            refine iteF ⟨s2, ts2, hD, ?_⟩
            rw [tk, List.filter_append, List.filter_cons_of_neg (by rw [eb]; exact Bool.false_ne_true)]
            rw [List.filter_nil, List.append_nil]
            exact hT2
        cases c with
        | none =>
          refine ⟨_, rfl, rfl, _, rfl, iteT ?_⟩
          exact iteT ⟨_, rfl, cast (if_pos rfl) (go true rfl)⟩
        | some c =>
          refine ⟨_, rfl, rfl, _, rfl, iteF ?_⟩
          refine ⟨_, rfl, t, wd, rfl, SqT.of ht2, _, rfl, rfl, _, rfl, ?_⟩
          by_cases e : wd.sum = c
          · rw [show decide (V.int wd.sum = cV (some c)) = true from deqI e]
            exact iteT ⟨_, rfl, cast (if_pos rfl) (go true (decide_eq_true e))⟩
          · rw [show decide (V.int wd.sum = cV (some c)) = false from dneI e]
            exact iteF (cast (if_neg Bool.false_ne_true) (go false (decide_eq_false e)))
      · rintro H2 ⟨s2, ts2, hD, hT2⟩
        rw [List.length_map, tl, List.take_length] at hT2
        exact k D ts2 H2 (s1.trans s2) (s1.free nD) hD hT2
end
end Nu
namespace Nu
open PySem PySem.Spec PyProof.Rows L2
theorem cr_min_K {X : Cx} {K : PySem.W.Frag} (h : X.K = K) (hc : X.calm = true) : CallR X (.builtin "min") (rMin K) := h ▸ cr_min hc
theorem cr_max_K {X : Cx} {K : PySem.W.Frag} (h : X.K = K) (hc : X.calm = true) : CallR X (.builtin "max") (rMax K) := h ▸ cr_max hc
/-- the numbers of the worlds at a place -/
def colW (ws : List (List Int)) (k : Nat) : List Int := ws.map fun x => x.getD k 0
theorem colW_take (ws : List (List Int)) (k i : Nat) {x : List Int} (h : ws[i]? = some x) : colW (ws.take (i + 1)) k = colW (ws.take i) k ++ [x.getD k 0] := by
  unfold colW
  rw [List.take_add_one, h, List.map_append]
  rfl
structure MinMax (ws : List (List Int)) (lo hi : Nat → Int) (n : Nat) : Prop where
  lo1 : ∀ k, k < n → lo k ∈ colW ws k
  lo2 : ∀ k, k < n → ∀ y ∈ colW ws k, lo k ≤ y
  hi1 : ∀ k, k < n → hi k ∈ colW ws k
  hi2 : ∀ k, k < n → ∀ y ∈ colW ws k, y ≤ hi k
section
variable {P : Program} {w : World} {K : PySem.W.Frag} {mg : Str → Option Value} {base : Heap} {a : Ad} {fd : Fd}
def spLT : Sp := fun vs H Q _ => ∃ (r : Addr) (ts : List Addr) (ws : List (List Int)) (n : Nat) (lo hi : Nat → Int), vs = [.ref r] ∧ H r = some (.lst (ts.map V.ref)) ∧ TL H ts ws ∧ ws ≠ [] ∧ ws.length ≤ 900 ∧ (∀ x ∈ ws, x.length = n) ∧ n ≤ 3 ∧ MinMax ws lo hi n ∧
  ∀ b p q H', Same H H' → H' b = some (.tup [.ref p, .ref q]) → H' p = some (.tup ((LI lo n).map V.int)) → H' q = some (.tup ((LI hi n).map V.int)) → Q (.ref b) H'
theorem ok_l_tight (T : Txt K mg a fd) : FnOk P w K mg base CX0 1 a.l_tight fd.l_tight ["_law_every"] spLT := by
  refine T.F_l_tight.ok sc_l_tight (fun vs H Q E h => ?_) (fun cdv A outer s0 H vs Q E hr h => ?_)
  · obtain ⟨r, ts, ws, n, lo, hi, rfl, _⟩ := h
    rfl
  · obtain ⟨r, ts, ws, n, lo, hi, rfl, hr1, hT, hne, hl, hn, n3, M, k⟩ := h
    have hu := hu_of hr
    refine ⟨_, (pss_cons (ps_setLc (i := 1) (own := [("_law_k", 3)]) (g := gName 3) (by rfl) sc_l_tight.nd rfl rfl (sw_true rfl rfl rfl (by decide +kernel)) (pi_range1 (by rfl) T.n_range (pa_cons (pe_callB call_len_seq (by rfl) T.n_len PySem.boot_len (pa_cons (pe_ix ix_list (pv 0) pe_int (fun _ _ => rfl)) pa_nil)) pa_nil)) (blkOk_by (own := [("_law_k", 3)]) (N := ["_law_every", "_law_lows", "_law_world", "_law_k"]) (sc := defScope s_l_tight) (by decide +kernel)) (fun _ _ _ _ _ => pg_name (i := 3) sc_l_tight.nd rfl (Or.inr rfl)) (fun _ _ _ _ _ => pts_nil) (fun _ _ _ _ _ => (pe_callB (cr_min_K (K := K) rfl rfl) (by rfl) T.n_min (by decide +kernel) (pa_cons (pe_lc (own := [("_law_world", 2)]) (g := gName 2) (by rfl) sc_l_tight.nd (pi_listK (K := K) rfl (pv 0)) (blkOk_by (own := [("_law_world", 2)]) (N := ["_law_every", "_law_lows", "_law_world", "_law_k"]) (sc := ⟨.function, [(".0", .local), ("_law_k", .cell), ("min", .globalImplicit), ("_law_every", .cell)], false, false, []⟩) (by decide +kernel)) (fun _ _ _ _ _ => pg_name (i := 2) sc_l_tight.nd rfl (Or.inl rfl)) (fun _ _ _ _ _ => pts_nil) (fun _ _ _ _ _ => (pe_ix (ixT_K (K := K) rfl) (pv 2) (pv 3) (fun _ _ => rfl)))) pa_nil))))
    (pss_one (ps_ret (pe_tup (pa_cons (pe_callTy call_tuple_of (by rfl) T.n_tuple (by decide +kernel) (pa_cons (pv 1) pa_nil)) (pa_cons (pe_callTy call_tuple_of (by rfl) T.n_tuple (by decide +kernel) (pa_cons (pe_lc (own := [("_law_k", 3)]) (g := gName 3) (by rfl) sc_l_tight.nd (pi_range1 (by rfl) T.n_range (pa_cons (pe_callB call_len_seq (by rfl) T.n_len PySem.boot_len (pa_cons (pe_ix ix_list (pv 0) pe_int (fun _ _ => rfl)) pa_nil)) pa_nil)) (blkOk_by (own := [("_law_k", 3)]) (N := ["_law_every", "_law_lows", "_law_world", "_law_k"]) (sc := defScope s_l_tight) (by decide +kernel)) (fun _ _ _ _ _ => pg_name (i := 3) sc_l_tight.nd rfl (Or.inr rfl)) (fun _ _ _ _ _ => pts_nil) (fun _ _ _ _ _ => (pe_callB (cr_max_K (K := K) rfl rfl) (by rfl) T.n_max (by decide +kernel) (pa_cons (pe_lc (own := [("_law_world", 2)]) (g := gName 2) (by rfl) sc_l_tight.nd (pi_listK (K := K) rfl (pv 0)) (blkOk_by (own := [("_law_world", 2)]) (N := ["_law_every", "_law_lows", "_law_world", "_law_k"]) (sc := ⟨.function, [(".0", .local), ("_law_k", .cell), ("max", .globalImplicit), ("_law_every", .cell)], false, false, []⟩) (by decide +kernel)) (fun _ _ _ _ _ => pg_name (i := 2) sc_l_tight.nd rfl (Or.inl rfl)) (fun _ _ _ _ _ => pts_nil) (fun _ _ _ _ _ => (pe_ix (ixT_K (K := K) rfl) (pv 2) (pv 3) (fun _ _ => rfl)))) pa_nil)))) pa_nil)) pa_nil)))))), ?_⟩
    obtain ⟨x0, hx0⟩ : ∃ x0, ws[0]? = some x0 := by
      cases ws with
      | nil => exact absurd rfl hne
      | cons x l => exact ⟨x, rfl⟩
    obtain ⟨t0, et0, ht0⟩ := hT.get2 hx0
    have hx0n : x0.length = n := hn x0 (List.mem_of_getElem? hx0)
    have tl := hT.len
    have e0 : (ts.map V.ref)[0]? = some (V.ref t0) := by rw [List.getElem?_map, et0]; rfl
    refine ⟨_, rfl, r, _, 0, _, rfl, rfl, SqL.of hr1, atI_nat (j := 0) e0, ?_⟩
    have lx0 : (x0.map V.int).length = n := by rw [List.length_map, hx0n]
    have pos : ∀ k, 0 < (colW ws k).length := fun k => by
      unfold colW
      rw [List.length_map]
      exact List.length_pos_iff.mpr hne
    refine ⟨t0, _, rfl, .inr (SqT.of ht0), _, rfl, by omega, by rw [lx0]; omega, fun D nD => ?_⟩
    refine lc_range (lo := 0) (n := (((x0.map V.int).length : Nat) : Int).toNat) (fun j H' => Same H H' ∧ H' D = some (.lst ((LI lo j).map V.int)))
      ⟨same_upd nD, upd_same⟩ ?_ ?_
    · rintro j H1 hj ⟨s1, hD⟩
      have hj : j < n := by rw [lx0] at hj; omega
      have e0 : (0 : Int) + (j : Int) = (j : Int) := by omega
      refine ⟨wipe1 _ _ _, ?_⟩
      dsimp only [tYes]
      rw [if_pos rfl, e0]
      refine ⟨_, rfl, r, rfl, ⟨_, SqL.of (s1 _ _ hr1)⟩, fun D2 nD2 => lc_list (K := K) (a := r) (xs := ts.map V.ref) (fun i H' => Same H1 H' ∧ H' D2 = some (.lst ((colW (ws.take i) j).map V.int)))
        ⟨same_upd nD2, upd_same⟩ (fun i H' _ ⟨s2, _⟩ => SqL.of (s2 _ _ (s1 _ _ hr1))) ?_ ?_⟩
      · rintro i x H2 hx ⟨s2, hD2⟩
        rw [List.getElem?_map] at hx
        obtain ⟨t, et, rfl⟩ := Option.map_eq_some_iff.mp hx
        obtain ⟨wd, ew, ht⟩ := hT.get et
        have wn := hn wd (List.mem_of_getElem? ew)
        have wj : wd[j]? = some (wd.getD j 0) := by
          rw [List.getD_eq_getElem?_getD, List.getElem?_eq_getElem (by omega)]
          rfl
        refine ⟨wipe1 _ _ _, ?_⟩
        dsimp only [tYes]
        rw [if_pos rfl]
        have li : (ws.take i).length ≤ ws.length := by rw [List.length_take]; omega
        refine ⟨_, rfl, _, rfl, t, _, (j : Int), _, rfl, rfl, SqT.of (s2 _ _ (s1 _ _ ht)), atI_nat (by rw [List.getElem?_map, wj]; rfl), ?_⟩
        refine ⟨_, hD2, small1000 (by unfold colW; rw [List.length_map, List.length_map]; omega), fun c u e => ?_, ?_⟩
        · rw [upd_ne (fun z => by rw [z, nD2] at e; cases e)]
          exact s2 c u e
        · rw [upd_same, colW_take ws j i ew, List.map_append]
          rfl
      · rintro H2 ⟨s2, hD2⟩
        rw [List.length_map, tl, List.take_length] at hD2
        refine ⟨D2, colW ws j, rfl, SqL.of hD2, pos j, fun m hm hle => ?_⟩
        have em : m = lo j := Int.le_antisymm (hle _ (M.lo1 j hj)) (M.lo2 j hj m hm)
        subst em
        refine ⟨_, s2 _ _ hD, small1000 (by rw [List.length_map, LI_len]; omega), fun c u e => ?_, ?_⟩
        · rw [upd_ne (fun z => by rw [z, nD] at e; cases e)]
          exact s2 c u (s1 c u e)
        · rw [upd_same, LI_succ, List.map_append]
          rfl
    · rintro H1 ⟨s1, hD⟩
      rw [lx0, Int.toNat_natCast] at hD
      refine gName_go ?_
      refine next_go ?_
      refine ⟨_, rfl, D, _, rfl, .inl ⟨SqL.of hD, fun p np => ?_⟩⟩
      have sp : Same H1 (upd H1 p (.tup ((LI lo n).map V.int))) := same_upd np
      have s1p := s1.trans sp
      have hp : (upd H1 p (.tup ((LI lo n).map V.int))) p = some (.tup ((LI lo n).map V.int)) := upd_same
      generalize upd H1 p (.tup ((LI lo n).map V.int)) = H2 at s1p hp ⊢
      refine ⟨_, rfl, r, _, 0, _, rfl, rfl, SqL.of (s1p _ _ hr1), atI_nat (j := 0) e0, ?_⟩
      refine ⟨t0, _, rfl, .inr (SqT.of (s1p _ _ ht0)), _, rfl, by omega, by rw [lx0]; omega, fun D3 nD3 => ?_⟩
      refine lc_range (lo := 0) (n := (((x0.map V.int).length : Nat) : Int).toNat) (fun j H' => Same H2 H' ∧ H' D3 = some (.lst ((LI hi j).map V.int)))
        ⟨same_upd nD3, upd_same⟩ ?_ ?_
      · rintro j H3 hj ⟨s3, hD3⟩
        have hj : j < n := by rw [lx0] at hj; omega
        have e0 : (0 : Int) + (j : Int) = (j : Int) := by omega
        have s13 := s1p.trans s3
        refine ⟨wipe1 _ _ _, ?_⟩
        dsimp only [tYes]
        rw [if_pos rfl, e0]
        refine ⟨_, rfl, r, rfl, ⟨_, SqL.of (s13 _ _ hr1)⟩, fun D2 nD2 => lc_list (K := K) (a := r) (xs := ts.map V.ref) (fun i H' => Same H3 H' ∧ H' D2 = some (.lst ((colW (ws.take i) j).map V.int)))
          ⟨same_upd nD2, upd_same⟩ (fun i H' _ ⟨s2, _⟩ => SqL.of (s2 _ _ (s13 _ _ hr1))) ?_ ?_⟩
        · rintro i x H4 hx ⟨s2, hD2⟩
          rw [List.getElem?_map] at hx
          obtain ⟨t, et, rfl⟩ := Option.map_eq_some_iff.mp hx
          obtain ⟨wd, ew, ht⟩ := hT.get et
          have wn := hn wd (List.mem_of_getElem? ew)
          have wj : wd[j]? = some (wd.getD j 0) := by
            rw [List.getD_eq_getElem?_getD, List.getElem?_eq_getElem (by omega)]
            rfl
          refine ⟨wipe1 _ _ _, ?_⟩
          dsimp only [tYes]
          rw [if_pos rfl]
          have li : (ws.take i).length ≤ ws.length := by rw [List.length_take]; omega
          refine ⟨_, rfl, _, rfl, t, _, (j : Int), _, rfl, rfl, SqT.of (s2 _ _ (s13 _ _ ht)), atI_nat (by rw [List.getElem?_map, wj]; rfl), ?_⟩
          refine ⟨_, hD2, small1000 (by unfold colW; rw [List.length_map, List.length_map]; omega), fun c u e => ?_, ?_⟩
          · rw [upd_ne (fun z => by rw [z, nD2] at e; cases e)]
            exact s2 c u e
          · rw [upd_same, colW_take ws j i ew, List.map_append]
            rfl
        · rintro H4 ⟨s2, hD2⟩
          rw [List.length_map, tl, List.take_length] at hD2
          refine ⟨D2, colW ws j, rfl, SqL.of hD2, pos j, fun m hm hle => ?_⟩
          have em : m = hi j := Int.le_antisymm (M.hi2 j hj m hm) (hle _ (M.hi1 j hj))
          subst em
          refine ⟨_, s2 _ _ hD3, small1000 (by rw [List.length_map, LI_len]; omega), fun c u e => ?_, ?_⟩
          · rw [upd_ne (fun z => by rw [z, nD3] at e; cases e)]
            exact s2 c u (s3 c u e)
          · rw [upd_same, LI_succ, List.map_append]
            rfl
      · rintro H3 ⟨s3, hD3⟩
        rw [lx0, Int.toNat_natCast] at hD3
        refine ⟨D3, _, rfl, .inl ⟨SqL.of hD3, fun q nq => ?_⟩⟩
        refine ⟨(by show 2 ≤ sizeLine; decide), fun b nb => ?_⟩
        have s4 : Same H3 (upd H3 q (.tup ((LI hi n).map V.int))) := same_upd nq
        have s5 : Same (upd H3 q (.tup ((LI hi n).map V.int))) (upd (upd H3 q (.tup ((LI hi n).map V.int))) b (.tup [V.ref p, V.ref q])) := same_upd nb
        exact k b p q _ (((s1p.trans s3).trans s4).trans s5) upd_same (s5 _ _ (s4 _ _ (s3 _ _ hp))) (s5 _ _ upd_same)
end
end Nu
namespace Nu
open PySem PySem.Spec PyProof.Rows L2
theorem LI_getD (f : Nat → Int) {n k : Nat} (h : k < n) : (LI f n).getD k 0 = f k := by
  rw [List.getD_eq_getElem?_getD, LI_at _ h]
  rfl
/-- a list of just the worlds of a box -/
def IsW (ws : List (List Int)) (lw hg : Nat → Int) (n : Nat) (c : Option Int) : Prop := ∀ x, x ∈ ws ↔ ∃ f, x = LI f n ∧ Wd lw hg n c f
theorem IsW.all {lw hg : Nat → Int} {n : Nat} {c : Option Int} : IsW ((wAll lw hg n).filter (okC c)) lw hg n c := fun x => Wd.mem
theorem IsW.len {ws : List (List Int)} {lw hg : Nat → Int} {n : Nat} {c : Option Int} (h : IsW ws lw hg n c) : ∀ x ∈ ws, x.length = n := fun x hx => by
  obtain ⟨f, rfl, _⟩ := (h x).mp hx
  exact LI_len _ _
theorem IsW.ne {ws : List (List Int)} {lw hg : Nat → Int} {n : Nat} {c : Option Int} (h : IsW ws lw hg n c) (hle : ∀ i, i < n → lw i ≤ hg i) (nb : ¬ badC (sumF lw n) (sumF hg n) c) : ws ≠ [] := fun e => by
  obtain ⟨f, hf⟩ := has_world hle nb
  have := (h (LI f n)).mpr ⟨f, rfl, hf⟩
  rw [e] at this
  cases this
theorem IsW.col {ws : List (List Int)} {lw hg : Nat → Int} {n k : Nat} {c : Option Int} (h : IsW ws lw hg n c) (hk : k < n) (x : Int) : x ∈ colW ws k ↔ ∃ f, Wd lw hg n c f ∧ f k = x := by
  unfold colW
  rw [List.mem_map]
  constructor
  · rintro ⟨y, hy, rfl⟩
    obtain ⟨f, rfl, hf⟩ := (h y).mp hy
    exact ⟨f, hf, (LI_getD f hk).symm⟩
  · rintro ⟨f, hf, rfl⟩
    exact ⟨LI f n, (h _).mpr ⟨f, rfl, hf⟩, LI_getD f hk⟩
theorem IsW.mm {ws : List (List Int)} {lw hg : Nat → Int} {n : Nat} {c : Option Int} (h : IsW ws lw hg n c) (hle : ∀ i, i < n → lw i ≤ hg i) (nb : ¬ badC (sumF lw n) (sumF hg n) c) : MinMax ws (tlF lw hg n c) (thF lw hg n c) n := by
  have t := tl_le_th hle nb
  refine ⟨fun k hk => ?_, fun k hk y hy => ?_, fun k hk => ?_, fun k hk y hy => ?_⟩
  · rw [h.col hk, tight_iff hk hle nb]
    exact ⟨Int.le_refl _, t k hk⟩
  · rw [h.col hk, tight_iff hk hle nb] at hy
    exact hy.1
  · rw [h.col hk, tight_iff hk hle nb]
    exact ⟨t k hk, Int.le_refl _⟩
  · rw [h.col hk, tight_iff hk hle nb] at hy
    exact hy.2
def yesW (ws : List (List Int)) (j : Nat) (m : Int) : List (List Int) := ws.filter fun x => decide (m ≤ x.getD j 0)
def noW (ws : List (List Int)) (j : Nat) (m : Int) : List (List Int) := ws.filter fun x => decide (x.getD j 0 < m)
theorem yesW_app (a b : List (List Int)) (j : Nat) (m : Int) : yesW (a ++ b) j m = yesW a j m ++ yesW b j m := List.filter_append ..
theorem noW_app (a b : List (List Int)) (j : Nat) (m : Int) : noW (a ++ b) j m = noW a j m ++ noW b j m := List.filter_append ..
theorem yesW_one (x : List Int) (j : Nat) (m : Int) : yesW [x] j m = if m ≤ x.getD j 0 then [x] else [] := by
  unfold yesW
  by_cases h : m ≤ x.getD j 0
  · rw [if_pos h, List.filter_cons, decide_eq_true h]
    rfl
  · rw [if_neg h, List.filter_cons, decide_eq_false h]
    rfl
theorem noW_one (x : List Int) (j : Nat) (m : Int) : noW [x] j m = if x.getD j 0 < m then [x] else [] := by
  unfold noW
  by_cases h : x.getD j 0 < m
  · rw [if_pos h, List.filter_cons, decide_eq_true h]
    rfl
  · rw [if_neg h, List.filter_cons, decide_eq_false h]
    rfl
theorem IsW.yes {ws : List (List Int)} {lw hg : Nat → Int} {n k : Nat} {m : Int} {c : Option Int} (h : IsW ws lw hg n c) (hk : k < n) (hm : lw k ≤ m) : IsW (yesW ws k m) (yLo lw k m) hg n c := fun x => by
  unfold yesW
  rw [List.mem_filter, h x]
  constructor
  · rintro ⟨⟨f, rfl, hf⟩, hd⟩
    have := of_decide_eq_true hd
    rw [LI_getD f hk] at this
    exact ⟨f, rfl, (Wd.yes hk hm).mpr ⟨hf, this⟩⟩
  · rintro ⟨f, rfl, hf⟩
    have := (Wd.yes hk hm).mp hf
    exact ⟨⟨f, rfl, this.1⟩, decide_eq_true (by rw [LI_getD f hk]; exact this.2)⟩
theorem IsW.no {ws : List (List Int)} {lw hg : Nat → Int} {n k : Nat} {m : Int} {c : Option Int} (h : IsW ws lw hg n c) (hk : k < n) (hm : m - 1 ≤ hg k) : IsW (noW ws k m) lw (yLo hg k (m - 1)) n c := fun x => by
  unfold noW
  rw [List.mem_filter, h x]
  constructor
  · rintro ⟨⟨f, rfl, hf⟩, hd⟩
    have := of_decide_eq_true hd
    rw [LI_getD f hk] at this
    exact ⟨f, rfl, (Wd.no hk hm).mpr ⟨hf, this⟩⟩
  · rintro ⟨f, rfl, hf⟩
    have := (Wd.no hk hm).mp hf
    exact ⟨⟨f, rfl, this.1⟩, decide_eq_true (by rw [LI_getD f hk]; exact this.2)⟩
theorem IsW.tight {ws : List (List Int)} {lw hg : Nat → Int} {n : Nat} {c : Option Int} (h : IsW ws lw hg n c) : IsW ws (tlF lw hg n c) (thF lw hg n c) n c := fun x => by
  rw [h x]
  exact exists_congr fun f => and_congr_right fun _ => Wd.tight_iff'.symm
/-- a look parts the worlds -/
theorem IsW.parts {ws : List (List Int)} {lw hg : Nat → Int} {n k : Nat} {m : Int} {c : Option Int} (h : IsW ws lw hg n c) (T : Tg lw hg n c) (hk : k < n) : (yesW ws k m ≠ [] ∧ noW ws k m ≠ []) ↔ lw k < m ∧ m ≤ hg k := by
  have mem : ∀ y, y ∈ colW ws k ↔ lw k ≤ y ∧ y ≤ hg k := fun y => by rw [h.col hk, T.at_ hk]
  have y1 : yesW ws k m ≠ [] ↔ ∃ y ∈ colW ws k, m ≤ y := by
    unfold yesW colW
    rw [ne_eq, List.filter_eq_nil_iff]
    simp only [decide_eq_true_eq, Classical.not_forall, Decidable.not_not, List.mem_map]
    exact ⟨fun ⟨x, hx, e⟩ => ⟨_, ⟨x, hx, rfl⟩, e⟩, fun ⟨_, ⟨x, hx, rfl⟩, e⟩ => ⟨x, hx, e⟩⟩
  have n1 : noW ws k m ≠ [] ↔ ∃ y ∈ colW ws k, y < m := by
    unfold noW colW
    rw [ne_eq, List.filter_eq_nil_iff]
    simp only [decide_eq_true_eq, Classical.not_forall, Decidable.not_not, List.mem_map]
    exact ⟨fun ⟨x, hx, e⟩ => ⟨_, ⟨x, hx, rfl⟩, e⟩, fun ⟨_, ⟨x, hx, rfl⟩, e⟩ => ⟨x, hx, e⟩⟩
  rw [y1, n1]
  have le := T.le k hk
  constructor
  · rintro ⟨⟨y, hy, e1⟩, z, hz, e2⟩
    rw [mem] at hy hz
    omega
  · rintro ⟨h1, h2⟩
    exact ⟨⟨hg k, (mem _).mpr ⟨le, Int.le_refl _⟩, h2⟩, lw k, (mem _).mpr ⟨Int.le_refl _, le⟩, h1⟩
theorem smd_tupI {H : Hp} {p q : Addr} {xs : List Int} (hp : H p = some (.tup (xs.map V.int))) (hq : H q = some (.tup (xs.map V.int))) (hl : xs.length ≤ 1000) : SmD H 2 (.ref p) (.ref q) := by
  refine .inr ⟨p, q, _, _, false, rfl, rfl, hp, hq, rfl, by rw [List.length_map]; exact hl, fun i u v e1 e2 => .inl ?_⟩
  rw [e1] at e2
  cases e2
  obtain ⟨n, _, rfl⟩ := map_int_at e1
  exact ⟨rfl, rfl⟩
theorem flat_cV (c : Option Int) : flatV (cV c) = true := by
  cases c <;> rfl
theorem smd_box {H : Hp} {v u : V} {lw hg lw' hg' : Nat → Int} {n : Nat} {c : Option Int} (h1 : BoxH H v lw hg n n c) (h2 : BoxH H u lw' hg' n n c) (hn : n ≤ 1000) (e : ∀ i, i < n → lw i = lw' i ∧ hg i = hg' i) : SmD H 3 v u := by
  obtain ⟨b, p, q, rfl, hb, hp, hq⟩ := h1
  obtain ⟨b', p', q', rfl, hb', hp', hq'⟩ := h2
  rw [LI_congr fun i hi => (e i hi).1] at hp
  rw [LI_congr fun i hi => (e i hi).2] at hq
  refine .inr ⟨b, b', _, _, false, rfl, rfl, hb, hb', rfl, by show 3 ≤ 1000; decide, fun i x y e1 e2 => ?_⟩
  match i, e1, e2 with
  | 0, e1, e2 =>
    cases e1
    cases e2
    exact smd_tupI hp hp' (by rw [LI_len]; exact hn)
  | 1, e1, e2 =>
    cases e1
    cases e2
    exact smd_tupI hq hq' (by rw [LI_len]; exact hn)
  | 2, e1, e2 =>
    cases e1
    cases e2
    exact .inl ⟨rfl, flat_cV c⟩
  | i + 3, e1, e2 => simp at e1
theorem smd_pairT {H : Hp} {n : Nat} {p q : Addr} {a b a' b' : V} (hp : H p = some (.tup [a, b])) (hq : H q = some (.tup [a', b'])) (h1 : SmD H n a a') (h2 : SmD H n b b') : SmD H (n + 1) (.ref p) (.ref q) := by
  refine .inr ⟨p, q, _, _, false, rfl, rfl, hp, hq, rfl, by show 2 ≤ 1000; decide, fun i x y e1 e2 => ?_⟩
  match i, e1, e2 with
  | 0, e1, e2 =>
    cases e1
    cases e2
    exact h1
  | 1, e1, e2 =>
    cases e1
    cases e2
    exact h2
  | i + 2, e1, e2 => simp at e1
/-- a list of tuples compared with an empty one -/
theorem eqw_nil {K : PySem.W.Frag} {H : Hp} {p e : Addr} {ts : List Addr} {ws : List (List Int)} {Q : VK} (hp : H p = some (.lst (ts.map V.ref))) (hT : TL H ts ws) (he : H e = some (.lst [])) (q : Q (.bl ws.isEmpty) H) : rEqD K (.ref p) (.ref e) H Q := by
  refine ⟨.list (ws.map dw), .list [], .lst (SqL.of hp) (dp_worlds ts ws hT), .lst (SqL.of he) .nil, dws_shaped _, by decide, ?_⟩
  cases ws with
  | nil => exact q
  | cons x r => exact q
end Nu
namespace Cl
open PySem PySem.Spec PyProof.Rows L2
/-! ### cells and closures that outlive their frame -/
/-- a cell that holds v -/
def CellO (c : Addr) (v : V) : HO := .ext fun h => ∃ w, h.IsCell c (some w) ∧ RelV v w
/-- a lambda's text -/
structure LamD where
  params : Arguments
  body : Expr
  scope : Scope
/-- the closure at f -/
def LamO (f : Addr) (q : Str) (D : LamD) (cells : List (Str × Addr)) (c' : Addr) : HO := .ext fun h => ∃ pm ctv, h.get? f = some (PySem.W.kla_obj "<lambda>" q D.params D.body D.scope (cloFrom cells D.scope.names []) pm c' ctv)
theorem cell_ok {P : Program} {w : World} {H : Hp} {h : Heap} {c : Addr} {v : V} {u : Value} (e : h.IsCell c (some u)) (r : RelV v u) : ObjOk P w H h c (CellO c v) := by
  obtain ⟨o, ho, hd⟩ := id e
  refine ⟨⟨u, e, r⟩, ⟨o, ho⟩, fun h1 h2 ⟨w', ⟨o', e1, e2⟩, r'⟩ st => ⟨w', ⟨o', st o' e1, e2⟩, r'⟩⟩
theorem lam_ok {P : Program} {w : World} {H : Hp} {h : Heap} {f c' : Addr} {q : Str} {D : LamD} {cells : List (Str × Addr)} {pm ctv : Value} (e : h.get? f = some (PySem.W.kla_obj "<lambda>" q D.params D.body D.scope (cloFrom cells D.scope.names []) pm c' ctv)) : ObjOk P w H h f (LamO f q D cells c') :=
  ⟨⟨pm, ctv, e⟩, ⟨_, e⟩, fun h1 h2 ⟨pm, ctv, e⟩ st => ⟨pm, ctv, st _ e⟩⟩
theorem cellO_ne {c b : Addr} {v : V} {H : Hp} (h : H c = some (CellO c v)) : (∀ xs, H c ≠ some (.tup xs)) ∧ (∀ o u, H c ≠ some (.frz o u)) ∧ (∀ ps, H c ≠ some (.tbl ps)) ∧ H c ≠ some (.own b) := by
  unfold CellO at h
  rw [h]
  exact ⟨fun _ z => (by cases z), fun _ _ z => (by cases z), fun _ z => (by cases z), fun z => (by cases z)⟩
/-- without the objects cs -/
def rmC (H : Hp) (cs : List Addr) : Hp := fun b => if b ∈ cs then none else H b
/-- the objects cs as they were -/
def putC (H H' : Hp) (cs : List Addr) : Hp := fun b => if b ∈ cs then H b else H' b
theorem rmC_in {H : Hp} {cs : List Addr} {b : Addr} (h : b ∈ cs) : rmC H cs b = none := if_pos h
theorem rmC_out {H : Hp} {cs : List Addr} {b : Addr} (h : b ∉ cs) : rmC H cs b = H b := if_neg h
theorem putC_in {H H' : Hp} {cs : List Addr} {b : Addr} (h : b ∈ cs) : putC H H' cs b = H b := if_pos h
theorem putC_out {H H' : Hp} {cs : List Addr} {b : Addr} (h : b ∉ cs) : putC H H' cs b = H' b := if_neg h
theorem rmC_some {H : Hp} {cs : List Addr} {b : Addr} {o : HO} (h : rmC H cs b = some o) : b ∉ cs ∧ H b = some o := by
  by_cases c : b ∈ cs
  · rw [rmC_in c] at h
    cases h
  · rw [rmC_out c] at h
    exact ⟨c, h⟩
def AllC (H : Hp) (cs : List Addr) : Prop := ∀ c ∈ cs, ∃ v, H c = some (CellO c v)
section
variable {P : Program} {w : World} {H H' : Hp} {h h' B : Heap} {cs fs : List Addr}
theorem AllC.nin (a : AllC H cs) {b : Addr} (n : H b = none) : b ∉ cs := fun z => by
  obtain ⟨v, e⟩ := a b z
  rw [n] at e
  cases e
theorem rm_none (a : AllC H cs) {b : Addr} (n : H b = none) : rmC H cs b = none := by rw [rmC_out (a.nin n)]; exact n
theorem hok_rm (a : AllC H cs) (ok : HOk P w H h) : HOk P w (rmC H cs) h := fun b o e => by
  obtain ⟨nb, eb⟩ := rmC_some e
  refine (ok b o eb).stay (fun _ _ _ q => q) (fun d q => ?_) fun d xs q => ?_
  · rw [rmC_out fun z => by
      obtain ⟨v, ev⟩ := a d z
      exact (cellO_ne (b := b) ev).2.2.2 q]
    exact q
  · rw [rmC_out fun z => by
      obtain ⟨v, ev⟩ := a d z
      exact (cellO_ne (b := b) ev).1 xs q]
    exact q
theorem hok_put (a : AllC H cs) (ok : HOk P w H h) (ok' : HOk P w H' h') (kp : ∀ c ∈ cs, ∀ o, h.get? c = some o → h'.get? c = some o) (nil : ∀ c ∈ cs, H' c = none) : HOk P w (putC H H' cs) h' := fun b o e => by
  by_cases c : b ∈ cs
  · rw [putC_in c] at e
    obtain ⟨v, ev⟩ := a b c
    rw [ev] at e
    cases e
    obtain ⟨hx, ⟨ob, eo⟩, mo⟩ := ok b _ ev
    exact ⟨mo h h' hx (fun o q => kp b c o q), ⟨ob, kp b c ob eo⟩, mo⟩
  · rw [putC_out c] at e
    have nn : ∀ d u, H' d = some u → putC H H' cs d = some u := fun d u q => by
      rw [putC_out fun z => by rw [nil d z] at q; cases q]
      exact q
    exact (ok' b o e).stay (fun _ _ _ q => q) (fun d q => nn d _ q) fun d xs q => nn d _ q
theorem rm_tups (a : AllC H cs) {b : Addr} {xs : List V} (q : H b = some (.tup xs)) : b ∉ cs := fun z => by
  obtain ⟨v, e⟩ := a b z
  exact (cellO_ne (b := b) e).1 xs q
theorem rm_frzs (a : AllC H cs) {b : Addr} {o : Obj} {u : HO} (q : H b = some (.frz o u)) : b ∉ cs := fun z => by
  obtain ⟨v, e⟩ := a b z
  exact (cellO_ne (b := b) e).2.1 o u q
theorem rm_tbls (a : AllC H cs) {b : Addr} {ps : Array Value} (q : H b = some (.tbl ps)) : b ∉ cs := fun z => by
  obtain ⟨v, e⟩ := a b z
  exact (cellO_ne (b := b) e).2.2.1 ps q
theorem un_put (a : AllC H cs) (u : Un fs [] (rmC H cs) H' h h') : Un fs [] H (putC H H' cs) h h' := by
  refine ⟨fun b o q n x y => u.keep b o q (rm_none a n) x y, fun b o q n x y => u.slot b o q (rm_none a n) x y, fun b o q n x => ?_, u.there, fun b xs q => ?_, fun b o v q => ?_, fun b ps q => ?_⟩
  · rw [putC_out (a.nin n)]
    exact u.free b o q (rm_none a n) x
  · have z := rm_tups a q
    rw [putC_out z]
    exact u.tups b xs (by rw [rmC_out z]; exact q)
  · have z := rm_frzs a q
    rw [putC_out z]
    exact u.frzs b o v (by rw [rmC_out z]; exact q)
  · have z := rm_tbls a q
    rw [putC_out z]
    exact u.tbls b ps (by rw [rmC_out z]; exact q)
theorem ub_put (a : AllC H cs) (u : UB fs (rmC H cs) H' h B h') : UB fs H (putC H H' cs) h B h' := by
  refine ⟨fun b o q n x => u.keep b o q (rm_none a n) x, u.slot, fun b o q n => ?_, u.there, fun b xs q => ?_, fun b o v q => ?_, fun b ps q => ?_⟩
  · rw [putC_out (a.nin n)]
    exact u.free b o q (rm_none a n)
  · have z := rm_tups a q
    rw [putC_out z]
    exact u.tups b xs (by rw [rmC_out z]; exact q)
  · have z := rm_frzs a q
    rw [putC_out z]
    exact u.frzs b o v (by rw [rmC_out z]; exact q)
  · have z := rm_tbls a q
    rw [putC_out z]
    exact u.tbls b ps (by rw [rmC_out z]; exact q)
theorem cx_put {outer : List Env} {s s' : Shared} {E : XK} {e : Value} (a : AllC H cs) (ok : HOk P w H s.heap) (nf : ∀ c ∈ cs, c ∉ frs outer) (x : L2.CX P w outer (rmC H cs) s (fun cls d H' => E cls d (putC H H' cs)) e s') : L2.CX P w outer H s E e s' := by
  obtain ⟨p, B, H', cls, d, ea, fl, hok, ub, na, os, ag, he⟩ := x
  have kp : ∀ c ∈ cs, ∀ o, s.heap.get? c = some o → B.get? c = some o := fun c hc o q => ub.keep c o q (rmC_in hc) (nf c hc)
  have ex : ∀ c ∈ cs, ∃ o, s.heap.get? c = some o := fun c hc => by
    obtain ⟨v, ev⟩ := a c hc
    obtain ⟨_, q, _⟩ := ok c _ ev
    exact q
  refine ⟨p, B, putC H H' cs, cls, d, ea, fl, hok_put a ok hok kp fun c hc => ?_, ub_put a ub, ?_, os, ag, he⟩
  · obtain ⟨o, q⟩ := ex c hc
    exact ub.free c o q (rmC_in hc)
  · have np : p ∉ cs := fun z => by
      obtain ⟨o, q⟩ := ex p z
      have h1 := kp p z o q
      rw [fl.2.1] at h1
      cases h1
    rw [putC_out np]
    exact na
theorem ce_put {outer : List Env} {s s' : Shared} {Q : VK} {u : Value} (a : AllC H cs) (ok : HOk P w H s.heap) (nf : ∀ c ∈ cs, c ∉ frs outer) (x : CE outer P w (rmC H cs) s (fun v H' => Q v (putC H H' cs)) u s') : CE outer P w H s Q u s' := by
  obtain ⟨v, H', os, bare, un, hok, r, q⟩ := x
  refine ⟨v, putC H H' cs, os, bare, un_put a un, hok_put a ok hok (fun c hc o q => un.keep c o q (rmC_in hc) (nf c hc) (by simp)) fun c hc => ?_, r, q⟩
  obtain ⟨v', ev⟩ := a c hc
  obtain ⟨_, ⟨o, q'⟩, _⟩ := ok c _ ev
  exact un.free c o q' (rmC_in hc) (by simp)
theorem env0_rm {K : PySem.W.Frag} {mg : Str → Option Value} {base : Heap} {A : Around} {outer : List Env} {s : Shared} (a : AllC H cs) (e0 : Env0 P w K mg base A outer s H) : Env0 P w K mg base A outer s (rmC H cs) :=
  ⟨e0.frames, e0.mod, fun b o e => ⟨(e0.bs b o e).1, rm_none a (e0.bs b o e).2⟩, e0.bsz, e0.funs, fun b hb => rm_none a (e0.frf b hb), hok_rm a e0.hok, e0.bare⟩
end
/-! ### a lambda as a value -/
def tLamV (T : List (Addr × Str)) (q : Str) (cells : List (Str × Addr)) (D : LamD) : TE := fun σ H Q => LamX.Tabs T H ∧ ∀ f c' H1, LamX.ExtN H H1 → LamX.Tabs T H1 → H1 f = none → H1 c' = some (LamX.CodeO c' q) → Q (.ref f) (upd H1 f (LamO f q D cells c'))
theorem pe_lam {X : Cx} {T : List (Addr × Str)} {c P : Addr} {D : LamD} {pos : Pos} (TB : LamX.TabB X.base X.mg c P) (hcode : X.env.code = .ref c) (hm : (P, X.env.qual ++ "<lambda>") ∈ T) (hu : ∀ p ∈ T, p.1 = P → p.2 = X.env.qual ++ "<lambda>") (L : LamX.LamS X.env.scope D.scope)
    (hdef : defaultsOf D.params X.env = ([], [])) : PE X (.Lambda D.params D.body D.scope pos) (tLamV T (X.env.qual ++ "<lambda>") X.env.cells D) := by
  refine ⟨fun pins s σ H Q I h => ?_⟩
  obtain ⟨hT, h⟩ := h
  obtain ⟨ps, hP, ht, ha⟩ := hT _ hm
  have hP' : s.heap.get? P = some { cls := .none, data := .fields ps } := I.hok P _ hP
  have glob := I.mod.glob.keeps I.bk
  have bP := TB.bm.keeps I.bk
  have cP := TB.code.keeps I.bk
  have hcl := L2.closure_ok (L.has I.ok)
  refine PySem.W.kla_eval hdef ?_
  cases hc : codeAmong pos ps.toList with
  | some cv =>
    obtain ⟨c', e, hco⟩ := ha pos cv hc
    subst e
    refine PySem.W.kla_makeFunctionHit (mg := X.mg) hcl I.ok.glob glob hcode cP hP' ht hc bP fun ctv h' tk hx hsz => ?_
    have I1 : Inv X pins σ H { s with heap := h', toks := tk } := I.kept hx
    have nf : H h'.objs.size = none := I1.hok.fresh (Nat.le_refl _)
    exact ⟨.ref h'.objs.size, _, I1.laid (t' := tk) (fun _ _ e => Heap.get?_push_of_some _ e) (Nat.le_refl _) (lam_ok (Heap.get?_push_size _ rfl)), rfl, h _ c' H (LamX.ExtN.refl H) hT nf hco⟩
  | none =>
    refine PySem.W.kla_makeFunction (mg := X.mg) hcl I.ok.glob glob hcode cP hP' ht hc TB.gP bP fun c' ctv h' tk hx hge hlt hrec htb => ?_
    obtain ⟨c2, oc, vs, t, e2, hoc, hd, hv⟩ := hrec
    cases e2
    have nC : H c' = none := I.hok.fresh hge
    have nCP : P ≠ c' := ne_of_none hP nC
    have I1 := LamX.inv_table (t' := tk) (more := #[rawInt pos.line, rawInt pos.col, .ref c']) (q := X.env.qual ++ "<lambda>") I hP hx htb hge ⟨oc, vs, t, hoc, hd, hv⟩
    have hE : LamX.ExtN H (upd (upd H P (.tbl (ps ++ #[rawInt pos.line, rawInt pos.col, .ref c']))) c' (LamX.CodeO c' (X.env.qual ++ "<lambda>"))) := fun b o e n => by
      have n1 : b ≠ P := fun z => n ps (by rw [z, hP] at e; exact (Option.some.inj e).symm)
      rw [upd_ne (ne_of_none e nC), upd_ne n1]
      exact e
    have nf := I1.hok.fresh (Nat.le_refl h'.objs.size)
    have hT1 : LamX.Tabs T (upd (upd H P (.tbl (ps ++ #[rawInt pos.line, rawInt pos.col, .ref c']))) c' (LamX.CodeO c' (X.env.qual ++ "<lambda>"))) := fun p hp => by
      by_cases hb : p.1 = P
      · have eL : (ps ++ #[rawInt pos.line, rawInt pos.col, .ref c']).toList = ps.toList ++ [rawInt pos.line, rawInt pos.col, .ref c'] := by simp
        rw [hu p hp hb, hb]
        refine ⟨_, (by rw [upd_ne nCP, upd_same]), (by rw [eL]; exact PySem.TriplesOk_snoc _ _ _ _ ht), fun p' cv hcv => ?_⟩
        rw [eL] at hcv
        rcases LamX.among_app _ ht hcv with z | z
        · obtain ⟨c0, e1, e2⟩ := ha p' cv z
          exact ⟨c0, e1, hE _ _ e2 LamX.codeO_ne⟩
        · exact ⟨c', z, upd_same⟩
      · obtain ⟨ps', a1, a2, a3⟩ := hT p hp
        refine ⟨ps', (by rw [upd_ne (ne_of_none a1 nC), upd_ne hb]; exact a1), a2, fun p' cv hcv => ?_⟩
        obtain ⟨c0, e1, e2⟩ := a3 p' cv hcv
        exact ⟨c0, e1, hE _ _ e2 LamX.codeO_ne⟩
    exact ⟨.ref h'.objs.size, _, I1.laid (t' := tk) (fun _ _ e => Heap.get?_push_of_some _ e) (Nat.le_refl _) (lam_ok (Heap.get?_push_size _ rfl)), rfl, h _ c' _ hE hT1 nf upd_same⟩
end Cl
namespace Cl
open PySem PySem.Spec PyProof.Rows L2
abbrev capt (sc : Scope) (y : Str) : Prop := sc.names.lookup y = some .cell ∨ sc.names.lookup y = some .free
/-- what a returned frame's captured names hold -/
structure Reg (sc : Scope) (N : List Str) (cells : List (Str × Addr)) (cs : List Addr) (σ : L2.St) (H : Hp) : Prop where
  len : σ.length = N.length
  has : ∀ y, capt sc y → ∃ c, cells.lookup y = some c ∧ c ∈ cs
  at_ : ∀ (i : Nat) (y : Str) (v : V) (c : Addr), N[i]? = some y → σ[i]? = some (some v) → capt sc y → cells.lookup y = some c → H c = some (CellO c v)
  all : AllC H cs
  inj : ∀ y z c, cells.lookup y = some c → cells.lookup z = some c → y = z
abbrev lenv (q : Str) (scope : Scope) (cells : List (Str × Addr)) (L f c' : Addr) : Env := PySem.W.envX q scope L f (.ref c') (cloFrom cells scope.names [])
/-- a lambda's context, whoever made it -/
def lcx (P : Program) (w : World) (K : PySem.W.Frag) (mg : Str → Option Value) (base : Heap) (N : List Str) (q : Str) (scope : Scope) (cells : List (Str × Addr)) (A : Around) (outer : List Env) (s : Shared) (H : Hp) (E : XK) (f c' : Addr) : Cx :=
  let ev := lenv q scope cells s.heap.objs.size f c'
  { prog := P, w := w, K := K, mg := mg, base := base, A := A.deeper ev, N := N, s_0 := s, H_0 := H, env := ev, outer := outer, stack := ev :: outer, ex := [], fn := fun _ => false, calm := true, pn := [],
    xe := fun e s' => wpAny (model P w) (A.deeper ev) (leaving ev e) (fun _ t => L2.CX P w outer H s E e t) (fun e' t => L2.CX P w outer H s E e' t) s' }
section
variable {P : Program} {w : World} {K : PySem.W.Frag} {mg : Str → Option Value} {base : Heap} {N : List Str} {q : Str} {sc scope : Scope} {cells : List (Str × Addr)} {cs : List Addr} {A : Around} {outer : List Env} {s : Shared} {H : Hp} {E : XK} {f c' : Addr} {σ : L2.St}
theorem clo_in {y : Str} {c : Addr} (e : (cloFrom cells scope.names []).lookup y = some c) : (y, NameKind.free) ∈ scope.names ∧ c = (cells.lookup y).getD 0 := by
  rcases cloFrom_mem (PySem.mem_of_lookup e) with z | z
  · cases z
  · exact z
theorem Reg.clo (R : Reg sc N cells cs σ H) (L : LamX.LamS sc scope) {y : Str} {c : Addr} (e : (cloFrom cells scope.names []).lookup y = some c) : capt sc y ∧ cells.lookup y = some c ∧ c ∈ cs := by
  obtain ⟨h1, h2⟩ := clo_in e
  have cp := L.free _ h1 rfl
  obtain ⟨c1, e1, m1⟩ := R.has y cp
  rw [e1] at h2
  have h2 : c = c1 := h2
  subst h2
  exact ⟨cp, e1, m1⟩
theorem lcx_start {h₁ : Heap} {tk : Nat} (L : LamX.LamS sc scope) (R : Reg sc N cells cs σ H) (ok : HOk P w H s.heap) (e0 : Env0 P w K mg base A outer s (rmC H cs)) (hd : A.handled = none) (hns : h₁.Ns s.heap.objs.size fun y => ([] : List (Str × Value)).reverse.lookup y)
    (kp : ∀ b o, s.heap.get? b = some o → h₁.get? b = some o) : L2.Inv (lcx P w K mg base N q scope cells A outer s (rmC H cs) E f c') [] σ (rmC H cs) { s with heap := h₁, toks := tk } := by
  have noA : ∀ b : Addr, b ∉ (lcx P w K mg base N q scope cells A outer s (rmC H cs) E f c').ex := fun b z => by cases (show b ∈ ([] : List Addr) from z)
  have look : ∀ {y}, scope.names.lookup y = some .free → ∃ c, (cloFrom cells scope.names []).lookup y = some c := fun {y} hl => mem_lookup (cloFrom_has (cells := cells) (acc := []) (PySem.mem_of_lookup hl))
  have isc : ∀ {c : Addr} {v : V}, H c = some (CellO c v) → ∃ u, RelV v u ∧ h₁.IsCell c (some u) := fun {c v} e => by
    obtain ⟨⟨u, ⟨o, ho, hc⟩, r⟩, _, _⟩ := ok c _ e
    exact ⟨u, r, o, kp _ _ ho, hc⟩
  have okx : (lcx P w K mg base N q scope cells A outer s (rmC H cs) E f c').Ok :=
    { mod := e0.mod
      kind := L.kind
      glob := rfl
      blt := rfl
      above := Nat.le_refl _
      inj := fun y z c e1 e2 => R.inj y z c (R.clo L e1).2.1 (R.clo L e2).2.1
      has := fun y hy => (show scope.names.lookup y = some .cell ∨ scope.names.lookup y = some .free from hy).elim (fun z => absurd rfl (L.own _ (PySem.mem_of_lookup z)).2) fun z => look z
      cab := fun y c z _ => by cases (show false = true from z)
      hd := fun _ => hd
      frames := Around.frames_deeper e0.frames
      stk := .inr ⟨rfl, rfl⟩
      exf := fun b z => absurd z (noA b)
      bs := e0.bs
      bsz := e0.bsz
      noex := fun b _ _ => noA b
      exfs := fun b z => absurd z (noA b)
      funs := e0.funs
      frf := e0.frf }
  refine { ok := okx, os := rfl, bare := e0.bare, base := Un.kept kp, loc := ⟨_, hns, fun i y v e1 e2 e3 => ?_⟩, cell := fun y c e => ?_, free := e0.hok.fresh (Nat.le_refl _), freeC := fun y c e => rmC_in (R.clo L e).2.2, pin := fun p hp => ?_, hok := e0.hok.kept kp, len := R.len }
  · rcases (show Vis scope y from e3) with z | z | z
    · exact absurd rfl (L.own _ (PySem.mem_of_lookup z)).1
    · exact absurd rfl (L.own _ (PySem.mem_of_lookup z)).2
    · obtain ⟨c, ec⟩ := look z
      obtain ⟨h1, h2, h3⟩ := R.clo L ec
      obtain ⟨u, r, ic⟩ := isc (R.at_ i y v c e1 e2 h1 h2)
      exact ⟨u, r, .inr ⟨.inr z, c, ec, ic⟩⟩
  · obtain ⟨_, _, h3⟩ := R.clo L e
    obtain ⟨v, ev⟩ := R.all c h3
    obtain ⟨u, _, ic⟩ := isc ev
    exact ⟨_, ic⟩
  · cases (show p ∈ ([] : List (Addr × Obj)) ++ [] from hp)
/-- what is wanted behind a closure's body, with the cells back -/
def tBack (t : XK → TE) (sc : Scope) (N : List Str) (cells : List (Str × Addr)) (cs : List Addr) (σ : L2.St) : XK → Hp → VK → Prop := fun E H Q =>
  Reg sc N cells cs σ H ∧ t (fun cls d H' => E cls d (putC H H' cs)) σ (rmC H cs) (fun v H' => Q v (putC H H' cs))
/-- x(), where x holds a closure -/
theorem pe_actF {CXg : CXT} {Eg : XK} {Ng : List Str} {qg : Str} {sg : Scope} {g : Addr} {cdg : Value} {D : LamD} {k i : Nat} {a : Str} {pn : List (Addr × Obj)} {xe : Value → Shared → Prop} {W : WX} {t : XK → TE} {p1 p2 : Pos} (L : LamX.LamS sc D.scope)
    (hbind : ∀ (cl : List (Str × Addr)) (pm cv ctv : Value), bindArgs (PySem.W.kla_fn "<lambda>" q D.params D.body D.scope cl pm cv ctv) ⟨[], []⟩ = pure [])
    (tk : Takes ((cxOf CXg P w K mg base Ng qg sg g cdg A outer s H Eg).tr pn xe) W) (hW : ∀ cls d σ' H', E cls d H' → W cls d σ' H') (hr : Room (k + 1) (A.deeper (envOfC qg sg s.heap.objs.size g cdg)))
    (hbody : ∀ (A : Around) (outer : List Env) (s : Shared) (H : Hp) (E : XK), Room k (A.deeper (lenv q D.scope cells s.heap.objs.size f c')) → PE (lcx P w K mg base N q D.scope cells A outer s H E f c') D.body (t E))
    (hN : Ng[i]? = some a) (hv : Vis sg a) (hd : (a == ("__debug__" : Str)) = false := by decide) (hcd : (a == ("__classdict__" : Str)) = false := by decide) :
    PE ((cxOf CXg P w K mg base Ng qg sg g cdg A outer s H Eg).tr pn xe) (.Call (.Name a p1) [] [] p2)
      (fun σZ HZ Q => σZ[i]? = some (some (.ref f)) ∧ HZ c' = some (LamX.CodeO c' q) ∧ HZ f = some (LamO f q D cells c') ∧ tBack t sc N cells cs σ E HZ Q) := by
  refine ⟨fun pinsZ sZ σZ HZ Q IZ h => ?_⟩
  obtain ⟨hs, hc, hf, R, ht⟩ := h
  have hvar := (pe_var (X := (cxOf CXg P w K mg base Ng qg sg g cdg A outer s H Eg).tr pn xe) (pos := p1) (i := i) hN hv hd hcd).run pinsZ sZ σZ HZ (fun v H1 => v = .ref f ∧ H1 = HZ) IZ ⟨.ref f, hs, rfl, rfl⟩
  refine wpAny_Call_Name_kw (thn hvar fun u s1 hq1 => ?_)
  obtain ⟨v, H1, I1, r1, ev, eH⟩ := hq1
  subst ev eH
  cases r1
  obtain ⟨⟨pm, ctv, of1⟩, _, _⟩ := I1.hok f _ hf
  obtain ⟨⟨oc, vs, tq, hoc, hdc, hvc⟩, _, _⟩ := I1.hok c' _ hc
  have e0 := I1.env0
  have nf : ∀ c ∈ cs, c ∉ frs (envOfC qg sg s.heap.objs.size g cdg :: outer) := fun c hc z => by
    obtain ⟨v, ev⟩ := R.all c hc
    have := e0.frf c z
    rw [ev] at this
    cases this
  refine PySem.W.callWith_F0 ⟨_, _, _, _, of1⟩ ?_
  have rc : codeAny (model P w) (A.deeper (envOfC qg sg s.heap.objs.size g cdg)) (.call (.ref f) ⟨[], []⟩) (CR (L2.CX P w) (envOfC qg sg s.heap.objs.size g cdg :: outer) P w H1 s1 Q E) s1 := by
    refine PySem.W.kla_callFunE hr.depth of1 rfl L.co L.gen rfl ⟨c', oc, vs, tq, rfl, hoc, hdc, hvc⟩ ?_
    rw [hbind]
    have own1 : ∀ y ∈ D.scope.names, y.2 ≠ .cell := fun y hy => (L.own y hy).2
    refine wpAny_pure (wpAny_newFunctionEnv own1 (fun y hy => by cases hy) (fun h₁ hns hsb => ⟨I1.nolimit.fresh _ hsb, ?_⟩) L.kind)
    have kp : ∀ b o, s1.heap.get? b = some o → h₁.get? b = some o := fun b o e => hsb.extBut b o (Nat.ne_of_lt (Heap.lt_size e)) (Heap.get?_push_of_some _ e)
    have J := lcx_start (q := q) (E := fun cls d H' => E cls d (putC H1 H' cs)) (f := f) (c' := c') (tk := s1.toks + ([] : List (Str × Value)).length) L R I1.hok (env0_rm R.all e0) hr.hd hns kp
    refine PySem.W.kla_codeExpr (wpAny_mono ((hbody _ _ s1 _ _ (hr.deeper _)).run [] _ _ _ _ J ht) (fun v s' hq => ?_) fun e s' hq => ?_)
    · obtain ⟨w', H', J', rv, q'⟩ := hq
      exact ce_put R.all I1.hok nf ⟨w', H', J'.os, J'.bare, J'.base, J'.hok, rv, q'⟩
    · exact wpAny_mono hq (fun _ t x => cx_put R.all I1.hok nf x) fun _ t x => cx_put R.all I1.hok nf x
  have hx : Passes (L2.CX P w) ((cxOf CXg P w K mg base Ng qg sg g cdg A outer s H Eg).tr pn xe) E := passes_call tk hW
  refine wpAny_call (codeAny_mono rc fun r s' hq => ?_)
  match r, hq with
  | .error e, hq => exact hx pinsZ σZ H1 s1 e s' I1 hq
  | .ok (.ret u), hq => exact I1.after hq
  | .ok .next, hq => exact False.elim hq
  | .ok .brk, hq => exact False.elim hq
  | .ok .cont, hq => exact False.elim hq
end
/-- x(y), x a def that calls what it gets, y a local name that holds one of the closures Ds -/
theorem pe_callF {X : Cx} {TT : (XK → Hp → VK → Prop) → Hp → VK → Prop} {x a y q : Str} {g : Addr} {k j n : Nat} {pg : Arguments} {bg : List Stmt} {sg sc : Scope} {dV kV doc pm cdv ct oc : Value} {an od : Option Addr} {osl : Array (Option Value)} {Ng NF : List Str} {Ds : Nat → LamD} {tt : Nat → XK → TE}
    {p py pos : Pos} (hg : Gl X x) (hm : X.mg x = some (.ref g)) (hk : PySem.W.keepIn X.K (.ref g) = true) (lk : X.K.lookup g = some ⟨oc, od, .func (PySem.W.fnOf x x pg bg sg dV kV doc pm an cdv ct), osl⟩) (hcg : PySem.W.codeIn X.K cdv x = true)
    (hb : L2.Binds X.K (PySem.W.fnOf x x pg bg sg dV kV doc pm an cdv ct) [a] []) (Sg : FnScope Ng [a] sg) (hNg : Ng[0]? = some a) (hva : Vis sg a) (hG : LamX.GivesTo X Ng x sg g cdv bg a q TT) (hr : Room (k + 2) X.A) (hy : PE X (.Name y py) (tVar j))
    (hD : ∀ i, i < n → LamX.LamS sc (Ds i).scope ∧ (∀ (cl : List (Str × Addr)) (pm cv ctv : Value), bindArgs (PySem.W.kla_fn "<lambda>" q (Ds i).params (Ds i).body (Ds i).scope cl pm cv ctv) ⟨[], []⟩ = pure []) ∧
      ∀ (cells : List (Str × Addr)) (A : Around) (outer : List Env) (s : Shared) (H : Hp) (E : XK) (f c' : Addr), Room k (A.deeper (lenv q (Ds i).scope cells s.heap.objs.size f c')) → PE (lcx X.prog X.w X.K X.mg X.base NF q (Ds i).scope cells A outer s H E f c') (Ds i).body (tt i E))
    (hdb : (x == ("__debug__" : Str)) = false := by decide) (hd : (a == ("__debug__" : Str)) = false := by decide) (hcd : (a == ("__classdict__" : Str)) = false := by decide) :
    PE X (.Call (.Name x p) [.Name y py] [] pos) (fun σ H Q => ∃ (f c' : Addr) (i : Nat) (cells : List (Str × Addr)) (cs : List Addr) (σF : L2.St), i < n ∧ σ[j]? = some (some (.ref f)) ∧ H c' = some (LamX.CodeO c' q) ∧
      TT (fun E H' Q' => H' f = some (LamO f q (Ds i) cells c') ∧ tBack (tt i) sc NF cells cs σF E H' Q') H Q) := by
  refine ⟨fun pins s σ H Q I h => ?_⟩
  obtain ⟨f, c', i, cells, cs, σF, hi, hs, hco, h⟩ := h
  obtain ⟨L, hbind, hbody⟩ := hD i hi
  refine wpAny_Call_Name_kw (ld_glob I hg hm ?_ hdb)
  have args := (pa_cons hy pa_nil).run pos pins s σ H (fun vs H1 => vs = [V.ref f] ∧ H1 = H) I ⟨_, hs, rfl, rfl⟩
  refine PySem.W.callWith_K (h₀ := X.base) I.ok.mod.kin hk (thn args fun us s1 hq1 => ?_) (by rfl) (by rfl)
  obtain ⟨vs, H1, I1, r, ev, eH⟩ := hq1
  subst ev eH
  refine ⟨I1.kIn, ?_⟩
  obtain ⟨u, rfl, ru⟩ := vals1 r
  cases ru
  have rc : codeAny (model X.prog X.w) X.A (.call (.ref g) ⟨[.ref f], []⟩) (CR C8.CX0 X.stack X.prog X.w H1 s1 Q C8.E0) s1 := by
    refine LamX.run_ofS (N := Ng) (ps := [a]) (us := [.ref f]) (vs := [.ref f]) lk hcg Sg hr I1.env0 (hb s1 [.ref f] I1.kIn rfl) (.cons rfl .nil) rfl fun hr' => ?_
    obtain ⟨t', ht', hq'⟩ := hG f c' s1 H1 Q _ (fun W pn xe E p1 p2 tk hW => pe_actF (i := 0) (cs := cs) (σ := σF) (N := NF) (cells := cells) (c' := c') (f := f) (D := Ds i) (sc := sc) (t := tt i) L hbind tk hW hr' (fun A outer s H E hr2 => hbody cells A outer s H E f c' hr2) hNg hva hd hcd) hco h
    exact ⟨t', ht'.nox, hq'⟩
  refine wpAny_call (codeAny_mono rc fun r s2 hq => ?_)
  match r, hq with
  | .error e, hq => exact (show False from hq).elim
  | .ok (.ret u), hq => exact I1.after hq
  | .ok .next, hq => exact False.elim hq
  | .ok .brk, hq => exact False.elim hq
  | .ok .cont, hq => exact False.elim hq
end Cl
namespace Cl
open PySem PySem.Spec PyProof.Rows L2
/-! ### a def whose frame's cells are told of behind it -/
/-- a block that ends with return, its slots known there -/
structure PSe (X : Cx) (st : List Stmt) (u : (L2.St → Hp → V → Prop) → L2.St → Hp → Prop) : Prop where
  run : ∀ (pins : List (Addr × Obj)) (s : Shared) (σ : L2.St) (H : Hp) (R : L2.St → Hp → V → Prop), L2.Inv X pins σ H s → u R σ H → wpAny (model X.prog X.w) X.A (execs st X.env) (fun f s' => ∃ u v σ' H', f = .ret u ∧ L2.Inv X pins σ' H' s' ∧ RelV v u ∧ R σ' H' v) X.xe s
theorem pse_cons {X : Cx} {st : Stmt} {rest : List Stmt} {t : TS} {u : (L2.St → Hp → V → Prop) → L2.St → Hp → Prop} (h1 : PS X st t) (h2 : PSe X rest u) : PSe X (st :: rest) (fun R σ H => t { nx := u R, rt := fun _ _ => False } σ H) := by
  refine ⟨fun pins s σ H R I h => ?_⟩
  refine wpAny_execs_cons (thn (h1.run pins s σ H _ I h) fun f s1 hq => ?_)
  match f, hq with
  | .next, ⟨σ', H', I', q⟩ => exact h2.run pins s1 σ' H' R I' q
  | .ret v, ⟨_, _, _, _, _, q⟩ => exact False.elim q
  | .brk, ⟨_, _, _, q⟩ => exact False.elim q
  | .cont, ⟨_, _, _, q⟩ => exact False.elim q
theorem pse_ret {X : Cx} {e : Expr} {pos : Pos} {te : TE} (he : PE X e te) : PSe X [.Return (some e) pos] (fun R σ H => te σ H fun v H1 => R σ H1 v) := by
  refine ⟨fun pins s σ H R I h => ?_⟩
  refine wpAny_execs_cons (wpAny_Return_some (thn (he.run pins s σ H _ I h) fun u s1 hq => ?_))
  obtain ⟨v, H1, I1, r, q⟩ := hq
  exact ⟨u, v, σ, H1, rfl, I1, r, q⟩
/-- the captured names' cells told -/
structure Told (sc : Scope) (N : List Str) (cells : List (Str × Addr)) (σ : L2.St) (H H' : Hp) : Prop where
  same : ∀ b o, H b = some o → H' b = some o
  at_ : ∀ (i : Nat) (y : Str) (v : V) (c : Addr), N[i]? = some y → σ[i]? = some (some v) → capt sc y → cells.lookup y = some c → H c = none ∧ H' c = some (CellO c v)
  has : ∀ y, capt sc y → ∃ c, cells.lookup y = some c
  inj : ∀ y z c, cells.lookup y = some c → cells.lookup z = some c → y = z
/-- as captured names are so told they are a closure's -/
theorem Told.reg {sc : Scope} {N : List Str} {cells : List (Str × Addr)} {σ : L2.St} {H H' : Hp} (T : Told sc N cells σ H H') (hl : σ.length = N.length) (hv : ∀ y, capt sc y → ∃ (i : Nat) (v : V), N[i]? = some y ∧ σ[i]? = some (some v)) (ns : List Str) (hns : ∀ y, capt sc y ↔ y ∈ ns) :
    Reg sc N cells (ns.filterMap fun y => cells.lookup y) σ H' := by
  refine ⟨hl, fun y hy => ?_, fun i y v c e1 e2 hy e3 => (T.at_ i y v c e1 e2 hy e3).2, fun c hc => ?_, T.inj⟩
  · obtain ⟨c, e⟩ := T.has y hy
    exact ⟨c, e, List.mem_filterMap.mpr ⟨y, (hns y).mp hy, e⟩⟩
  · obtain ⟨y, hy, e⟩ := List.mem_filterMap.mp hc
    have cy := (hns y).mpr hy
    obtain ⟨i, v, e1, e2⟩ := hv y cy
    exact ⟨v, (T.at_ i y v c e1 e2 cy e).2⟩
open Classical in
noncomputable def tellC (sc : Scope) (N : List Str) (cells : List (Str × Addr)) (σ : L2.St) (H : Hp) : Hp := fun b =>
  if h : ∃ (i : Nat) (y : Str) (v : V), N[i]? = some y ∧ σ[i]? = some (some v) ∧ capt sc y ∧ cells.lookup y = some b then some (CellO b (choose (choose_spec (choose_spec h)))) else H b
theorem told_same {X : Cx} {pins : List (Addr × Obj)} {σ : L2.St} {H : Hp} {s : Shared} (I : L2.Inv X pins σ H s) : ∀ b o, H b = some o → tellC X.env.scope X.N X.env.cells σ H b = some o := fun b o e => by
  unfold tellC
  rw [dif_neg]
  · exact e
  · rintro ⟨i, y, v, _, _, _, e'⟩
    rw [I.freeC y b e'] at e
    cases e
theorem told_at {X : Cx} {pins : List (Addr × Obj)} {σ : L2.St} {H : Hp} {s : Shared} (I : L2.Inv X pins σ H s) (nd : X.N.Nodup) : Told X.env.scope X.N X.env.cells σ H (tellC X.env.scope X.N X.env.cells σ H) := by
  refine ⟨fun b o e => ?_, fun i y v c e1 e2 hy e3 => ⟨I.freeC y c e3, ?_⟩, fun y hy => I.ok.has y hy, I.ok.inj⟩
  · unfold tellC
    rw [dif_neg]
    · exact e
    · rintro ⟨i, y, v, _, _, _, e'⟩
      rw [I.freeC y b e'] at e
      cases e
  · unfold tellC
    have h : ∃ (i : Nat) (y : Str) (v : V), X.N[i]? = some y ∧ σ[i]? = some (some v) ∧ capt X.env.scope y ∧ X.env.cells.lookup y = some c := ⟨i, y, v, e1, e2, hy, e3⟩
    rw [dif_pos h]
    have key : ∀ (i' : Nat) (y' : Str) (v' : V), X.N[i']? = some y' → σ[i']? = some (some v') → X.env.cells.lookup y' = some c → v' = v := fun i' y' v' a1 a2 a3 => by
      have ey := I.ok.inj _ _ _ a3 e3
      subst ey
      have ei := nodup_ix nd a1 e1
      subst ei
      rw [e2] at a2
      exact (Option.some.inj (Option.some.inj a2)).symm
    obtain ⟨q1, q2, _, q4⟩ := Classical.choose_spec (Classical.choose_spec (Classical.choose_spec h))
    rw [key _ _ _ q1 q2 q4]
theorem tell_ok {X : Cx} {pins : List (Addr × Obj)} {σ : L2.St} {H : Hp} {s : Shared} (I : L2.Inv X pins σ H s) : HOk X.prog X.w (tellC X.env.scope X.N X.env.cells σ H) s.heap := fun b o e => by
  have nn : ∀ d u, H d = some u → tellC X.env.scope X.N X.env.cells σ H d = some u := fun d u q => by
    unfold tellC
    rw [dif_neg]
    · exact q
    · rintro ⟨i, y, v, _, _, _, e'⟩
      rw [I.freeC y d e'] at q
      cases q
  by_cases h : ∃ (i : Nat) (y : Str) (v : V), X.N[i]? = some y ∧ σ[i]? = some (some v) ∧ capt X.env.scope y ∧ X.env.cells.lookup y = some b
  · have e' := e
    unfold tellC at e'
    rw [dif_pos h] at e'
    cases e'
    obtain ⟨q1, q2, q3, q4⟩ := Classical.choose_spec (Classical.choose_spec (Classical.choose_spec h))
    obtain ⟨m, hn, hl⟩ := I.loc
    obtain ⟨u, r, l⟩ := hl _ _ _ q1 q2 (q3.elim (fun z => .inr (.inl z)) fun z => .inr (.inr z))
    rcases l with ⟨k, _⟩ | ⟨_, c, ec, ic⟩
    · rcases q3 with z | z <;> rw [show X.env.scope.names.lookup _ = _ from k] at z <;> cases z
    · rw [q4] at ec
      cases ec
      exact cell_ok ic r
  · have e' := e
    unfold tellC at e'
    rw [dif_neg h] at e'
    exact (I.hok b o e').stay (fun _ _ _ q => q) (fun d q => nn d _ q) fun d xs q => nn d _ q
theorem tell_un {fs : List Addr} {X : Cx} {pins : List (Addr × Obj)} {σ : L2.St} {H H0 : Hp} {s : Shared} {h0 : Heap} (I : L2.Inv X pins σ H s) (u : Un fs [] H0 H h0 s.heap) (hc : ∀ y c, X.env.cells.lookup y = some c → h0.objs.size ≤ c) : Un fs [] H0 (tellC X.env.scope X.N X.env.cells σ H) h0 s.heap := by
  have nn := told_same I
  refine ⟨u.keep, u.slot, fun b o q n x => ?_, u.there, fun b xs q => nn _ _ (u.tups b xs q), fun b o v q => nn _ _ (u.frzs b o v q), fun b ps q => ?_⟩
  · unfold tellC
    rw [dif_neg]
    · exact u.free b o q n x
    · rintro ⟨i, y, v, _, _, _, e'⟩
      exact Nat.lt_irrefl _ (Nat.lt_of_lt_of_le (Heap.lt_size q) (hc y b e'))
  · obtain ⟨more, e⟩ := u.tbls b ps q
    exact ⟨more, nn _ _ e⟩
/-- the def's promise -/
theorem fn_cells {CX : CXT} {P : Program} {w : World} {K : PySem.W.Frag} {mg : Str → Option Value} {base : Heap} {k : Nat} {f : Addr} {name qual : Str} {params : Arguments} {body : List Stmt} {scope : Scope} {dV kV doc pm cdv ct oc : Value} {an od : Option Addr} {osl : Array (Option Value)} {N ps : List Str} {sp : Sp}
    (lk : K.lookup f = some ⟨oc, od, .func (PySem.W.fnOf name qual params body scope dV kV doc pm an cdv ct), osl⟩) (hcd : PySem.W.codeIn K cdv qual = true) (S : FnScope N ps scope) (len : ∀ vs H Q E, sp vs H Q E → vs.length = ps.length)
    (hbody : ∀ (A : Around) (outer : List Env) (s : Shared) (H : Hp) (vs : List V) (Q : VK) (E : XK), Room k (A.deeper (envOfC qual scope s.heap.objs.size f cdv)) → sp vs H Q E →
      ∃ u, PSe (cxOf CX P w K mg base N qual scope f cdv A outer s H E) body u ∧ u (fun σ' H' v => ∀ H'', Told scope N (envOfC qual scope s.heap.objs.size f cdv).cells σ' H' H'' → Q v H'') (L2.start N vs) H) :
    FnOk P w K mg base CX (k + 1) f (PySem.W.fnOf name qual params body scope dV kV doc pm an cdv ct) ps sp := by
  refine ⟨len, fun A outer s H args us vs Q E hr e0 hb r hsp => ?_⟩
  have KX : K.In s.heap := e0.mod.kin.keeps fun b o e => (e0.bs b o e).1
  have lim := e0.mod.nolimit.keeps fun b o e => (e0.bs b o e).1
  refine codeAny_call_function hr.depth (KX _ _ lk) rfl S.co S.gen rfl (PySem.W.codeRec_of KX hcd) (hb _ _ _ _ ?_)
  have hkind : ∀ y ∈ ps.zip us, scope.names.lookup y.1 = some .local ∨ (scope.names.lookup y.1 = some .cell ∧ ((cellsFrom (s.heap.objs.size + 1) scope.names []).lookup y.1).isSome = true) := by
    rintro ⟨n, v⟩ hy
    exact (S.par n (List.of_mem_zip hy).1).imp id fun q => ⟨q, PySem.W.cellsFrom_some _ _ _ (.inl q)⟩
  refine wpAny_newFunctionEnv_cells S.kind hkind fun env he s1 x => ?_
  subst he
  refine ⟨lim.keeps x.toInCall.keep, codeAny_func ?_⟩
  obtain ⟨u, hu, hq⟩ := hbody A outer s H vs Q E (hr.deeper _) hsp
  have I := inv_start (CX := CX) (E := E) (P := P) (w := w) S hr.hd e0 (len _ _ _ _ hsp) r x
  refine wpAny_mono (hu.run [] s1 (L2.start N vs) H _ I hq) (fun fl s' hs => ?_) fun e s' hs => hs
  obtain ⟨u', v, σ', H', ef, J, rv, q⟩ := hs
  subst ef
  exact ⟨v, _, J.os, J.bare, tell_un J J.base fun y c e => J.ok.cab y c rfl e, tell_ok J, rv, q _ (told_at J S.nd)⟩
end Cl
namespace Nu
open PySem PySem.Spec PyProof.Rows L2
theorem takesL {X : Cx} {W : WX} (t : Takes X W) : Takes X (fun c d σ H => σ.length = X.N.length → W c d σ H) := fun u s' ⟨a, B, sI, pins, σ, H, cls, d, e, I, nb, up, sky, na, os, ag, w⟩ =>
  t u s' ⟨a, B, sI, pins, σ, H, cls, d, e, I, nb, up, sky, na, os, ag, w I.len⟩
/-- the three kinds -/
def three (a : Ad) : Nat → Addr
  | 0 => a.NoBox
  | 1 => a.NoWorld
  | _ => a.NotThere
def word3 : Nat → Str
  | 0 => "NoBox"
  | 1 => "NoWorld"
  | _ => "NotThere"
structure Kn3 (K : PySem.W.Frag) (a : Ad) (D : Addr) (i : Nat) : Prop where
  lt : i < 3
  k : ∀ j, j < 3 → PySem.W.kitOne K (.ref D) (.ref (three a j)) = some (decide (i = j))
  o : PySem.W.kitAny K (.ref D) [.ref a.NoCount, .ref a.NoDesk, .ref a.NoNumber, .ref a.NoOffice, .ref a.NoRoom, .ref a.NoWord, .ref a.Short, .ref a.Stopped, .ref a.Twice] = some false
  v : PySem.W.kitOne K (.ref D) (.type "ValueError") = some true
  g : PySem.W.exmOne K (.ref D) (.ref a.GapError) = some true
  c : ExcC K D
def kl (i : Nat) : List V := (List.range 3).map fun j => V.bl (decide (i = j))
theorem kl_count : ∀ i, i < 3 → ((kl i).countP fun z => eqV z (V.bl true)) = 1 := by decide
theorem kl_at {i : Nat} (h : i < 3) : (kl i)[i]? = some (V.bl true) := by
  unfold kl
  rw [List.getElem?_map, List.getElem?_range h]
  show some (V.bl (decide (i = i))) = _
  rw [decide_eq_true rfl]
theorem kl_before {i m : Nat} {z : V} (h : i < 3) (hm : m < i) (e : (kl i)[m]? = some z) : eqV z (V.bl true) = false := by
  unfold kl at e
  rw [List.getElem?_map, List.getElem?_range (by omega)] at e
  cases e
  show (decide (i = m) == true) = false
  rw [decide_eq_false (by omega)]
  rfl
theorem kl_flat (i : Nat) : (kl i).all flatV = true := by
  unfold kl
  rw [List.all_map]
  exact List.all_eq_true.mpr fun _ _ => rfl
theorem word3_at {i : Nat} (h : i < 3) : [V.str "NoBox", V.str "NoWorld", V.str "NotThere"][i]? = some (V.str (word3 i)) := by
  match i, h with
  | 0, _ => rfl
  | 1, _ => rfl
  | 2, _ => rfl
def TTkind (ad : Ad) : (XK → Hp → VK → Prop) → Hp → VK → Prop := fun tl H Q =>
  tl (fun cls d H' => ∃ i, i < 3 ∧ cls = .ref (three ad i) ∧ d = none ∧ ∀ H'', Same H' H'' → Q (.str (word3 i)) H'') H (fun _ H' => Q (.str "") H')
theorem kind_gives {K : PySem.W.Frag} {mg : Str → Option Value} {ad : Ad} {fd : Fd} (T : Txt K mg ad fd) (K3 : ∀ i, i < 3 → Kn3 K ad (three ad i) i) {X : Cx} (hK : X.K = K) (hmg : X.mg = mg) {q : Str} {cdg : Value} :
    LamX.GivesTo X ["_law_work", "e", "_law_kinds", "_law_other"] "_law_kind" (defScope s_l_kind) ad.l_kind cdg (defBody s_l_kind) "_law_work" q (TTkind ad) := by
  subst hK hmg
  intro f c' s H Q tl act hc h
  refine ⟨_, (pss_cons (ps_try_as (X := (cxOf CX0 X.prog X.w X.K X.mg X.base ["_law_work", "e", "_law_kinds", "_law_other"] "_law_kind" (defScope s_l_kind) ad.l_kind cdg X.A X.stack s H E0).nox) (i := 1) (tb := fun W D σ H => ∃ Ech : XK, (∀ cls d σ' H', Ech cls d H' → σ'.length = 4 → W cls d σ' H') ∧ σ[0]? = some (some (.ref f)) ∧ H c' = some (LamX.CodeO c' q) ∧ tl Ech H (fun _ H' => D.nx σ H')) rfl rfl sc_l_kind.nd rfl rfl ⟨(show Gl _ "GapError" from rfl), by decide, .inl T.x_GapError.g⟩ takes0 (fun W pn xe tk _ => ?_)
      (fun a oe cls d pn hz hf => (pss_cons (ps_set (i := 2) sc_l_kind.nd rfl (Or.inl rfl) (pe_lst (pa_cons (pe_callB (call_isG hz hf) (by rfl) T.n_isinstance (by decide +kernel) (pa_cons (pv 1) (pa_cons (pe_glob (v := .ref ad.NoBox) (by rfl) T.x_NoBox.g rfl) pa_nil))) (pa_cons (pe_callB (call_isG hz hf) (by rfl) T.n_isinstance (by decide +kernel) (pa_cons (pv 1) (pa_cons (pe_glob (v := .ref ad.NoWorld) (by rfl) T.x_NoWorld.g rfl) pa_nil))) (pa_cons (pe_callB (call_isG hz hf) (by rfl) T.n_isinstance (by decide +kernel) (pa_cons (pv 1) (pa_cons (pe_glob (v := .ref ad.NotThere) (by rfl) T.x_NotThere.g rfl) pa_nil))) pa_nil)))))
    (pss_cons (ps_set (i := 3) sc_l_kind.nd rfl (Or.inl rfl) (pe_callB (call_isGT hz hf) (by rfl) T.n_isinstance (by decide +kernel) (pa_cons (pv 1) (pa_cons (pe_tup (pa_cons (pe_glob (v := .ref ad.NoCount) (by rfl) T.x_NoCount.g rfl) (pa_cons (pe_glob (v := .ref ad.NoDesk) (by rfl) T.x_NoDesk.g rfl) (pa_cons (pe_glob (v := .ref ad.NoNumber) (by rfl) T.x_NoNumber.g rfl) (pa_cons (pe_glob (v := .ref ad.NoOffice) (by rfl) T.x_NoOffice.g rfl) (pa_cons (pe_glob (v := .ref ad.NoRoom) (by rfl) T.x_NoRoom.g rfl) (pa_cons (pe_glob (v := .ref ad.NoWord) (by rfl) T.x_NoWord.g rfl) (pa_cons (pe_glob (v := .ref ad.Short) (by rfl) T.x_Short.g rfl) (pa_cons (pe_glob (v := .ref ad.Stopped) (by rfl) T.x_Stopped.g rfl) (pa_cons (pe_glob (v := .ref ad.Twice) (by rfl) T.x_Twice.g rfl) pa_nil)))))))))) pa_nil))))
    (pss_cons (ps_if (PW.pt (pw_or (pt_val (pv 3)) (pw_or (pt_cmpR op_ne (pe_bmK (K := X.K) rfl PySem.F.plainAttrs_list PySem.F.slot_list_count PySem.F.type_list_count mt_countF (pv 2) (pa_cons pe_bl pa_nil)) pe_int (nomark _)) (pw_or1 (pt_not (pt_val (pe_callB (call_isG hz hf) (by rfl) T.n_isinstance (by decide +kernel) (pa_cons (pv 1) (pa_cons (pe_bltn (v := .ty "ValueError") (by rfl) T.n_ValueError (by decide +kernel) rfl) pa_nil))))))))) (pss_one (ps_ret pe_str)) pss_nil)
    (pss_one (ps_ret (pe_ix (ixL_K (K := X.K) rfl) (pe_lst (pa_cons pe_str (pa_cons pe_str (pa_cons pe_str pa_nil)))) (pe_bmK (K := X.K) rfl PySem.F.plainAttrs_list PySem.F.slot_list_index PySem.F.type_list_index (mt_indexK (K := X.K) rfl) (pv 2) (pa_cons pe_bl pa_nil)) (fun _ _ => rfl)))))))))
    (pss_one (ps_ret pe_str))), ?_⟩
  · refine ⟨fun pins s' σ H' D I h' => ?_⟩
    obtain ⟨Ech, hW, h1, h2, h3⟩ := h'
    exact (pss_one (ps_expr (act (fun c d σ H => σ.length = 4 → W c d σ H) pn xe Ech _ _ (takesL tk) hW))).run pins s' σ H' D I ⟨h1, h2, h3⟩
  · refine ⟨fun cls d H' => ∃ i, i < 3 ∧ cls = .ref (three ad i) ∧ d = none ∧ ∀ H'', Same H' H'' → Q (.str (word3 i)) H'', ?_, rfl, hc, h⟩
    rintro cls d σ' H1 ⟨i, hi, rfl, rfl, kq⟩ hlen
    obtain ⟨y0, y1, y2, y3, rfl⟩ : ∃ y0 y1 y2 y3, σ' = [y0, y1, y2, y3] := by
      match σ', hlen with
      | [y0, y1, y2, y3], _ => exact ⟨y0, y1, y2, y3, rfl⟩
    have kn := K3 i hi
    generalize three ad i = c at kn ⊢
    refine ⟨true, kn.g, fun _ ex nex => ?_, fun q => by cases q⟩
    refine ⟨_, rfl, c, rfl, rfl, kn.c, _, _, _, rfl, (fun u r => r), kn.k 0 (by decide), ?_⟩
    refine ⟨_, rfl, c, rfl, rfl, kn.c, _, _, _, rfl, (fun u r => r), kn.k 1 (by decide), ?_⟩
    refine ⟨_, rfl, c, rfl, rfl, kn.c, _, _, _, rfl, (fun u r => r), kn.k 2 (by decide), ?_⟩
    refine ⟨(by show 3 ≤ sizeLine; decide), fun lk nlk => ?_⟩
    have hk : (upd H1 lk (.lst (kl i))) lk = some (.lst (kl i)) := upd_same
    have s1 : Same H1 (upd H1 lk (.lst (kl i))) := same_upd nlk
    refine ⟨_, rfl, (by show 9 ≤ sizeLine; decide), fun tp ntp => ⟨c, tp, _, _, _, rfl, rfl, kn.c, rfl, upd_same, .cons (.own _) (.cons (.own _) (.cons (.own _) (.cons (.own _) (.cons (.own _) (.cons (.own _) (.cons (.own _) (.cons (.own _) (.cons (.own _) .nil)))))))), kn.o, ?_⟩⟩
    refine ⟨_, rfl, _, rfl, iteF ?_⟩
    have hk2 := same_upd (o := .tup [V.ref ad.NoCount, V.ref ad.NoDesk, V.ref ad.NoNumber, V.ref ad.NoOffice, V.ref ad.NoRoom, V.ref ad.NoWord, V.ref ad.Short, V.ref ad.Stopped, V.ref ad.Twice]) ntp _ _ hk
    have s2 := s1.trans (same_upd (o := .tup [V.ref ad.NoCount, V.ref ad.NoDesk, V.ref ad.NoNumber, V.ref ad.NoOffice, V.ref ad.NoRoom, V.ref ad.NoWord, V.ref ad.Short, V.ref ad.Stopped, V.ref ad.Twice]) ntp)
    refine ⟨_, rfl, .inl ⟨rfl, kl i, SqL.of hk2⟩, lk, kl i, _, rfl, rfl, SqL.of hk2, rfl, kl_flat i, rfl, _, rfl, ?_⟩
    rw [show (!decide (V.int (((kl i).countP fun z => eqV z (V.bl true) : Nat) : Int) = V.int 1)) = false from by rw [kl_count i kn.lt]; rfl]
    refine iteF ?_
    refine ⟨_, rfl, c, rfl, rfl, kn.c, _, _, _, rfl, (fun u r => r), kn.v, _, rfl, iteF ?_⟩
    refine ⟨(by show 3 ≤ sizeLine; decide), fun lw nlw => ?_⟩
    have hk3 := same_upd (o := .lst [V.str "NoBox", V.str "NoWorld", V.str "NotThere"]) nlw _ _ hk2
    refine ⟨_, rfl, .inl ⟨rfl, kl i, SqL.of hk3⟩, lk, kl i, .bl true, i, .bl true, rfl, rfl, SqL.of hk3, rfl, kl_flat i, kl_at kn.lt, rfl, (fun m z' hm e => kl_before kn.lt hm e), lw, _, _, V.str (word3 i), rfl, rfl, SqL.of upd_same, atI_nat (word3_at kn.lt), ?_⟩
    exact kq _ (s2.trans (same_upd nlw))
end Nu
namespace Nu
open PySem PySem.Spec PyProof.Rows L2
section
variable {P : Program} {w : World} {K : PySem.W.Frag} {mg : Str → Option Value} {base : Heap} {a : Ad} {fd : Fd}
def spSettled (a : Ad) : Sp := fun vs H Q E => ∃ (v : V) (lw hg : Nat → Int) (n m : Nat) (c : Option Int), vs = [v] ∧ BoxH H v lw hg n m c ∧ BOk lw hg n m c ∧ (¬ isB lw hg n m → ∀ H', Same H H' → E (.ref a.NoBox) none H') ∧
  (isB lw hg n m → badC (sumF lw n) (sumF hg n) c → ∀ H', Same H H' → E (.ref a.NoWorld) none H') ∧
  (isB lw hg n m → ¬ badC (sumF lw n) (sumF hg n) c → ∀ H', Same H H' → Q (.bl (decide (LI (tlF lw hg n c) n = LI (thF lw hg n c) n))) H')
theorem ok_is_settled (T : Txt K mg a fd) : FnOk P w K mg base (L2.CX P w) 5 a.is_settled fd.is_settled ["box"] (spSettled a) := by
  have G_tight := ok_tight (P := P) (w := w) (base := base) T
  refine T.F_is_settled.okX sc_is_settled (fun vs H Q E h => ?_) (fun cdv A outer s H vs Q E hr h => ?_)
  · obtain ⟨v, lw, hg, n, m, c, rfl, _⟩ := h
    rfl
  · obtain ⟨v, lw, hg, n, m, c, rfl, B, ok, k1, k2, k3⟩ := h
    refine ⟨_, (pss_cons (ps_asg (pe_call G_tight (hr.mono (by decide)) (by rfl) T.g_tight T.F_tight.kp T.b_tight .nil passU (pa_cons (pv 0) pa_nil)) (pg_tup (by rfl) (pgs_cons (pg_name (i := 1) sc_is_settled.nd rfl (Or.inl rfl)) (pgs_cons (pg_name (i := 2) sc_is_settled.nd rfl (Or.inl rfl)) (pgs_cons (pg_name (i := 3) sc_is_settled.nd rfl (Or.inl rfl)) pgs_nil)))))
    (pss_one (ps_ret (pe_cmpR (op_eqD hr.units) (pv 1) (pv 2) (nomark _))))), ?_⟩
    refine ⟨_, rfl, v, lw, hg, n, m, c, rfl, B, ok, k1, k2, fun ib nb v1 H1 s1 B1 => ?_⟩
    obtain ⟨b, p, q, rfl, hb, hp, hq⟩ := B1
    refine ⟨b, _, rfl, SqT.of hb, rfl, _, _, rfl, _, _, rfl, _, _, rfl, rfl, ?_⟩
    refine ⟨_, rfl, _, rfl, dw (LI (tlF lw hg n c) n), dw (LI (thF lw hg n c) n), dp_tup hp, dp_tup hq, dw_shaped _, dw_shaped _, ?_⟩
    rw [eqv_dw]
    exact k3 ib nb H1 s1
/-- no box, or one without worlds -/
def spNo (a : Ad) (f : List V → V → Prop) : Sp := fun vs H Q E => ∃ (v : V) (lw hg : Nat → Int) (n m : Nat) (c : Option Int), f vs v ∧ BoxH H v lw hg n m c ∧ BOk lw hg n m c ∧ (isB lw hg n m → badC (sumF lw n) (sumF hg n) c) ∧ (¬ isB lw hg n m → ∀ H', Same H H' → E (.ref a.NoBox) none H') ∧
  (isB lw hg n m → badC (sumF lw n) (sumF hg n) c → ∀ H', Same H H' → E (.ref a.NoWorld) none H')
theorem ok_least (T : Txt K mg a fd) : FnOk P w K mg base (L2.CX P w) 5 a.least fd.least ["box"] (spNo a fun vs v => vs = [v]) := by
  have G_tight := ok_tight (P := P) (w := w) (base := base) T
  refine T.F_least.okX sc_least (fun vs H Q E h => ?_) (fun cdv A outer s H vs Q E hr h => ?_)
  · obtain ⟨v, lw, hg, n, m, c, rfl, _⟩ := h
    rfl
  · obtain ⟨v, lw, hg, n, m, c, rfl, B, ok, kb, k1, k2⟩ := h
    refine ⟨_, (pss_cons (ps_set (i := 1) sc_least.nd rfl (Or.inl rfl) (pe_call G_tight (hr.mono (by decide)) (by rfl) T.g_tight T.F_tight.kp T.b_tight .nil passU (pa_cons (pv 0) pa_nil)))
    (pss_cons ps_never
    (pss_one ps_never))), ?_⟩
    exact ⟨_, rfl, v, lw, hg, n, m, c, rfl, B, ok, k1, k2, fun ib nb => absurd (kb ib) nb⟩
theorem ok_paper (T : Txt K mg a fd) : FnOk P w K mg base (L2.CX P w) 5 a.paper fd.paper ["box"] (spNo a fun vs v => vs = [v]) := by
  have G_tight := ok_tight (P := P) (w := w) (base := base) T
  refine T.F_paper.okX sc_paper (fun vs H Q E h => ?_) (fun cdv A outer s H vs Q E hr h => ?_)
  · obtain ⟨v, lw, hg, n, m, c, rfl, _⟩ := h
    rfl
  · obtain ⟨v, lw, hg, n, m, c, rfl, B, ok, kb, k1, k2⟩ := h
    refine ⟨_, (pss_cons (ps_set (i := 1) sc_paper.nd rfl (Or.inl rfl) (pe_call G_tight (hr.mono (by decide)) (by rfl) T.g_tight T.F_tight.kp T.b_tight .nil passU (pa_cons (pv 0) pa_nil)))
    (pss_cons ps_never
    (pss_cons ps_never
    (pss_cons ps_never
    (pss_cons ps_never
    (pss_cons ps_never
    (pss_cons ps_never
    (pss_one ps_never)))))))), ?_⟩
    exact ⟨_, rfl, v, lw, hg, n, m, c, rfl, B, ok, k1, k2, fun ib nb => absurd (kb ib) nb⟩
theorem ok_shows (T : Txt K mg a fd) : FnOk P w K mg base (L2.CX P w) 5 a.shows fd.shows ["box", "depth", "rows"] (spNo a fun vs v => ∃ x y, vs = [v, x, y]) := by
  have G_tight := ok_tight (P := P) (w := w) (base := base) T
  refine T.F_shows.okX sc_shows (fun vs H Q E h => ?_) (fun cdv A outer s H vs Q E hr h => ?_)
  · obtain ⟨v, lw, hg, n, m, c, ⟨x, y, rfl⟩, _⟩ := h
    rfl
  · obtain ⟨v, lw, hg, n, m, c, ⟨x, y, rfl⟩, B, ok, kb, k1, k2⟩ := h
    refine ⟨_, (pss_cons (ps_asg (pe_call G_tight (hr.mono (by decide)) (by rfl) T.g_tight T.F_tight.kp T.b_tight .nil passU (pa_cons (pv 0) pa_nil)) (pg_tup (by rfl) (pgs_cons (pg_name (i := 3) sc_shows.nd rfl (Or.inl rfl)) (pgs_cons (pg_name (i := 4) sc_shows.nd rfl (Or.inl rfl)) (pgs_cons (pg_name (i := 5) sc_shows.nd rfl (Or.inr rfl)) pgs_nil)))))
    (pss_cons ps_never
    (pss_cons ps_never
    (pss_cons ps_never
    (pss_one ps_never))))), ?_⟩
    exact ⟨_, rfl, v, lw, hg, n, m, c, rfl, B, ok, k1, k2, fun ib nb => absurd (kb ib) nb⟩
end
end Nu
namespace Nu
open PySem PySem.Spec PyProof.Rows L2
/-- what is no box, by its lists -/
structure OddL (xs ys : List Int) (c : Option Int) : Prop where
  no : ¬ isB (lof xs) (lof ys) xs.length ys.length
  lx : xs.length ≤ 10
  ly : ys.length ≤ 10
  ox : ∀ x ∈ xs, IntOk x
  oy : ∀ y ∈ ys, IntOk y
  oc : cOk c
def OddB (H : Hp) (t : Addr) : Prop := ∃ (xs ys : List Int) (c : Option Int) (p q : Addr), OddL xs ys c ∧ H t = some (.tup [.ref p, .ref q, cV c]) ∧ H p = some (.tup (xs.map V.int)) ∧ H q = some (.tup (ys.map V.int))
theorem OddB.mono {H H' : Hp} {t : Addr} (h : OddB H t) (s : ∀ c xs, H c = some (.tup xs) → H' c = some (.tup xs)) : OddB H' t := by
  obtain ⟨xs, ys, c, p, q, o, h1, h2, h3⟩ := h
  exact ⟨xs, ys, c, p, q, o, s _ _ h1, s _ _ h2, s _ _ h3⟩
theorem OddB.box {H : Hp} {t : Addr} (h : OddB H t) : ∃ (lw hg : Nat → Int) (n m : Nat) (c : Option Int), BoxH H (.ref t) lw hg n m c ∧ BOk lw hg n m c ∧ ¬ isB lw hg n m := by
  obtain ⟨xs, ys, c, p, q, o, h1, h2, h3⟩ := h
  have mem : ∀ (zs : List Int) (i : Nat), i < zs.length → lof zs i ∈ zs := fun zs i hi => by
    rw [lof_at (List.getElem?_eq_getElem hi)]
    exact List.getElem_mem hi
  exact ⟨lof xs, lof ys, xs.length, ys.length, c, ⟨t, p, q, rfl, h1, by rw [LI_lof]; exact h2, by rw [LI_lof]; exact h3⟩, ⟨by have := o.lx; omega, by have := o.ly; omega, fun i hi => o.ox _ (mem xs i hi), fun i hi => o.oy _ (mem ys i hi), o.oc⟩, o.no⟩
theorem upd_list (xs : List Int) {k : Nat} (v : Int) (h : k < xs.length) : ((xs.map V.int).take k ++ [V.int v]) ++ (xs.map V.int).drop (k + 1) = (xs.set k v).map V.int := by
  rw [List.set_eq_take_append_cons_drop, if_pos h, List.map_append, List.map_cons, List.map_take, List.map_drop, List.append_assoc]
  rfl
theorem lof_set (xs : List Int) {k : Nat} (v : Int) (h : k < xs.length) : lof (xs.set k v) k = v := lof_at (by rw [List.getElem?_set_self h])
theorem mem_setI {xs : List Int} {k : Nat} {v x : Int} (h : x ∈ xs.set k v) : x ∈ xs ∨ x = v := List.mem_or_eq_of_mem_set h
section
variable {P : Program} {w : World} {K : PySem.W.Frag} {mg : Str → Option Value} {base : Heap} {a : Ad} {fd : Fd}
def spOdd (K : PySem.W.Frag) : Sp := fun vs H Q _ => ∃ (s sc : Addr) (ns : List Int), vs = [.ref s] ∧ Drw K H s sc ns ∧
  ∀ t H', OddB H' t → Keep [s] H H' → Drw K H' s sc ns → Q (.ref t) H'
theorem ok_l_odd (T : Txt K mg a fd) : FnOk P w K mg base CX0 3 a.l_odd fd.l_odd ["_law_state"] (spOdd K) := by
  have G_l_drawn := ok_l_drawn (P := P) (w := w) (base := base) T
  have G_l_box := ok_l_box (P := P) (w := w) (base := base) T
  refine T.F_l_odd.ok sc_l_odd (fun vs H Q E h => ?_) (fun cdv A outer s0 H vs Q E hr h => ?_)
  · obtain ⟨s, sc, ns, rfl, _⟩ := h
    rfl
  · obtain ⟨s, sc, ns, rfl, D, k⟩ := h
    have hu := hu_of hr
    refine ⟨_, (pss_cons (ps_asg (pe_call G_l_box (hr.mono (by decide)) (by rfl) T.g_l_box T.F_l_box.kp T.b_l_box .nil pass0 (pa_cons (pv 0) pa_nil)) (pg_tup (by rfl) (pgs_cons (pg_name (i := 1) sc_l_odd.nd rfl (Or.inl rfl)) (pgs_cons (pg_name (i := 2) sc_l_odd.nd rfl (Or.inl rfl)) (pgs_cons (pg_name (i := 3) sc_l_odd.nd rfl (Or.inl rfl)) pgs_nil)))))
    (pss_cons (ps_set (i := 4) sc_l_odd.nd rfl (Or.inl rfl) (pe_ix ix_list (pe_lst (pa_cons pe_int (pa_cons pe_int (pa_cons (pe_op op_pow pe_int pe_int) pa_nil)))) (pe_call G_l_drawn (hr.mono (by decide)) (by rfl) T.g_l_drawn T.F_l_drawn.kp T.b_l_drawn .nil pass0 (pa_cons (pv 0) (pa_cons pe_int pa_nil))) (fun _ _ => rfl)))
    (pss_cons (ps_set (i := 5) sc_l_odd.nd rfl (Or.inl rfl) (pe_call G_l_drawn (hr.mono (by decide)) (by rfl) T.g_l_drawn T.F_l_drawn.kp T.b_l_drawn .nil pass0 (pa_cons (pv 0) (pa_cons (pe_callB call_len_seq (by rfl) T.n_len PySem.boot_len (pa_cons (pv 1) pa_nil)) pa_nil))))
    (pss_cons (ps_set (i := 6) sc_l_odd.nd rfl (Or.inl rfl) (pe_lst (pa_cons (pe_tup (pa_cons (pe_tup pa_nil) (pa_cons (pe_tup pa_nil) (pa_cons (pv 3) pa_nil)))) (pa_cons (pe_tup (pa_cons (pe_op op_catA (pv 1) (pe_tup (pa_cons pe_int pa_nil))) (pa_cons (pv 2) (pa_cons (pv 3) pa_nil)))) (pa_cons (pe_tup (pa_cons (pv 1) (pa_cons (pe_op op_catA (pv 2) (pe_tup (pa_cons pe_int pa_nil))) (pa_cons (pv 3) pa_nil)))) (pa_cons (pe_tup (pa_cons (pe_op op_repT (pe_tup (pa_cons pe_int pa_nil)) pe_int) (pa_cons (pe_op op_repT (pe_tup (pa_cons pe_int pa_nil)) pe_int) (pa_cons (pv 3) pa_nil)))) pa_nil))))))
    (pss_cons (ps_expr (pe_bm PySem.F.plainAttrs_list PySem.F.slot_list_append PySem.F.type_list_append mt_append (pv 6) (pa_cons (pe_tup (pa_cons (pe_op op_catA (pe_op op_catA (pe_slice sl_tupA (pv 1) po_none (po_some (pv 5))) (pe_tup (pa_cons (pe_op op_sub (pe_op op_sub pe_int pe_int) (pe_call G_l_drawn (hr.mono (by decide)) (by rfl) T.g_l_drawn T.F_l_drawn.kp T.b_l_drawn .nil pass0 (pa_cons (pv 0) (pa_cons (pv 4) pa_nil)))) pa_nil))) (pe_slice sl_tupA (pv 1) (po_some (pe_op op_add (pv 5) pe_int)) po_none)) (pa_cons (pv 2) (pa_cons (pv 3) pa_nil)))) pa_nil)))
    (pss_cons (ps_expr (pe_bm PySem.F.plainAttrs_list PySem.F.slot_list_append PySem.F.type_list_append mt_append (pv 6) (pa_cons (pe_tup (pa_cons (pv 1) (pa_cons (pe_op op_catA (pe_op op_catA (pe_slice sl_tupA (pv 2) po_none (po_some (pv 5))) (pe_tup (pa_cons (pe_op op_add pe_int (pe_call G_l_drawn (hr.mono (by decide)) (by rfl) T.g_l_drawn T.F_l_drawn.kp T.b_l_drawn .nil pass0 (pa_cons (pv 0) (pa_cons (pv 4) pa_nil)))) pa_nil))) (pe_slice sl_tupA (pv 2) (po_some (pe_op op_add (pv 5) pe_int)) po_none)) (pa_cons (pv 3) pa_nil)))) pa_nil)))
    (pss_cons (ps_expr (pe_bm PySem.F.plainAttrs_list PySem.F.slot_list_append PySem.F.type_list_append mt_append (pv 6) (pa_cons (pe_tup (pa_cons (pe_op op_catA (pe_op op_catA (pe_slice sl_tupA (pv 1) po_none (po_some (pv 5))) (pe_tup (pa_cons (pe_op op_add (pe_ix ix_tup (pv 2) (pv 5) (fun _ _ => rfl)) pe_int) pa_nil))) (pe_slice sl_tupA (pv 1) (po_some (pe_op op_add (pv 5) pe_int)) po_none)) (pa_cons (pv 2) (pa_cons (pv 3) pa_nil)))) pa_nil)))
    (pss_cons (ps_expr (pe_bm PySem.F.plainAttrs_list PySem.F.slot_list_append PySem.F.type_list_append mt_append (pv 6) (pa_cons (pe_tup (pa_cons (pv 1) (pa_cons (pe_op op_catA (pe_op op_catA (pe_slice sl_tupA (pv 2) po_none (po_some (pv 5))) (pe_tup (pa_cons (pe_op op_sub pe_int pe_int) pa_nil))) (pe_slice sl_tupA (pv 2) (po_some (pe_op op_add (pv 5) pe_int)) po_none)) (pa_cons pe_non pa_nil)))) pa_nil)))
    (pss_one (ps_ret (pe_ix ix_list (pv 6) (pe_call G_l_drawn (hr.mono (by decide)) (by rfl) T.g_l_drawn T.F_l_drawn.kp T.b_l_drawn .nil pass0 (pa_cons (pv 0) (pa_cons pe_int pa_nil))) (fun _ _ => rfl)))))))))))), ?_⟩
    refine ⟨_, rfl, s, sc, ns, rfl, D, fun v lw hg n c H1 ib oc k1 D1 B1 => ?_⟩
    obtain ⟨b, p, q, rfl, hb, hp, hq⟩ := B1
    obtain ⟨_, n1, n3, hall⟩ := ib
    refine ⟨b, _, rfl, SqT.of hb, rfl, _, _, rfl, _, _, rfl, _, _, rfl, rfl, ?_⟩
    dsimp only
    refine seq_go ?_
    -- far
    refine ⟨_, _, rfl, rfl, ⟨by decide, by decide, by decide⟩, (by show 3 ≤ sizeLine; decide), fun l0 nl0 => ?_⟩
    have D2 := D1.new (o := .lst [V.int 1, V.int 200, V.int ((10 : Int) ^ (59 : Int).toNat)]) nl0
    have S2 := same_upd (o := .lst [V.int 1, V.int 200, V.int ((10 : Int) ^ (59 : Int).toNat)]) nl0
    refine ⟨_, rfl, s, sc, ns, 3, rfl, D2, by decide, by decide, fun d H3 a3 b3 k3 D3 => ?_⟩
    obtain ⟨far, efar, f1, f2⟩ := at_three_i a3 b3
    refine ⟨l0, _, d, _, rfl, rfl, SqL.of (k3 _ _ upd_same (D1.ns nl0)), efar, ?_⟩
    have k13 : Keep [s] H H3 := (k1.trans (Keep.same S2)).trans k3
    have t3 : ∀ c xs, H1 c = some (.tup xs) → H3 c = some (.tup xs) := fun c xs e => D2.tups k3 _ _ (S2 _ _ e)
    have hp3 := t3 _ _ hp
    have hq3 := t3 _ _ hq
    clear efar D2 k3 S2 hb hp hq t3 nl0
    refine gName_go ?_
    dsimp only
    refine seq_go ?_
    have lx : ((LI lw n).map V.int).length = n := by rw [List.length_map, LI_len]
    have ly : ((LI hg n).map V.int).length = n := by rw [List.length_map, LI_len]
    refine ⟨_, rfl, _, rfl, p, _, rfl, .inr (SqT.of hp3), s, sc, ns, _, rfl, D3, by rw [lx]; omega, by rw [lx]; exact Nat.lt_trans (log_nat (by omega)) (by decide), fun kk H4 a4 b4 k4 D4 => ?_⟩
    rw [lx] at b4
    obtain ⟨k', rfl⟩ := Int.eq_ofNat_of_zero_le a4
    have hk : k' < n := by omega
    have k14 := k13.trans k4
    have hp4 := D3.tups k4 _ _ hp3
    have hq4 := D3.tups k4 _ _ hq3
    clear hp3 hq3 D3 k13
    refine gName_go ?_
    dsimp only
    refine seq_go ?_
    -- the numbers
    have okx : ∀ x ∈ LI lw n, IntOk x := fun x hx => by
      obtain ⟨i, hi, rfl⟩ := mem_LI.mp hx
      have := hall i hi
      exact intOkS (by omega) (by omega)
    have oky : ∀ x ∈ LI hg n, IntOk x := fun x hx => by
      obtain ⟨i, hi, rfl⟩ := mem_LI.mp hx
      have := hall i hi
      exact intOkS (by omega) (by omega)
    have Lx : (LI lw n).length = n := LI_len _ _
    have Ly : (LI hg n).length = n := LI_len _ _
    have kx : k' < (LI lw n).length := by omega
    have ky : k' < (LI hg n).length := by omega
    have fx : lof (LI lw n) k' = lw k' := lof_at (LI_at _ hk)
    have fy : lof (LI hg n) k' = hg k' := lof_at (LI_at _ hk)
    have hk' := hall k' hk
    have setx : ∀ v : Int, IntOk v → ¬ (0 ≤ v ∧ v ≤ hg k') → OddL ((LI lw n).set k' v) (LI hg n) c := fun v ov nv => by
      refine ⟨fun B => nv ?_, by rw [List.length_set]; omega, by omega, fun x hx => (mem_setI hx).elim (okx x) fun e => by rw [e]; exact ov, oky, oc⟩
      have := B.2.2.2 k' (by rw [List.length_set]; exact kx)
      rw [lof_set _ _ kx, fy] at this
      exact ⟨this.1, this.2.1⟩
    have sety : ∀ (v : Int) (c' : Option Int), IntOk v → cOk c' → ¬ (lw k' ≤ v ∧ v ≤ 7) → OddL (LI lw n) ((LI hg n).set k' v) c' := fun v c' ov oc' nv => by
      refine ⟨fun B => nv ?_, by omega, by rw [List.length_set]; omega, okx, fun x hx => (mem_setI hx).elim (oky x) fun e => by rw [e]; exact ov, oc'⟩
      have := B.2.2.2 k' kx
      rw [lof_set _ _ ky, fx] at this
      exact ⟨this.2.1, this.2.2⟩
    have e1' : (k' : Int) + 1 = ((k' + 1 : Nat) : Int) := by omega
    -- the first four
    refine ⟨Nat.zero_le _, fun e1 ne1 => ⟨Nat.zero_le _, fun e2 ne2 => ⟨_, rfl, (by show 3 ≤ sizeLine; decide), fun b1 nb1 => ?_⟩⟩⟩
    have S5 := ((same_upd (o := .tup ([] : List V)) ne1).trans (same_upd (o := .tup ([] : List V)) ne2)).trans (same_upd (o := .tup [V.ref e1, V.ref e2, cV c]) nb1)
    have O1 : OddB (upd (upd (upd H4 e1 (.tup [])) e2 (.tup [])) b1 (.tup [V.ref e1, V.ref e2, cV c])) b1 :=
      ⟨[], [], c, e1, e2, ⟨fun B => by have := B.2.1; simp at this, by simp, by simp, fun x h => by simp at h, fun x h => by simp at h, oc⟩, upd_same, same_upd nb1 _ _ (same_upd ne2 _ _ upd_same), same_upd nb1 _ _ upd_same⟩
    generalize upd (upd (upd H4 e1 (.tup [])) e2 (.tup [])) b1 (.tup [V.ref e1, V.ref e2, cV c]) = H5 at S5 O1 ⊢
    refine ⟨_, rfl, (by show 1 ≤ sizeLine; decide), fun t2 nt2 => ?_⟩
    have S6 : Same H5 (upd H5 t2 (.tup [V.int 0])) := same_upd nt2
    refine cat_go (S6 _ _ (S5 _ _ hp4)) upd_same (by rw [lx]; show n + 1 ≤ 1000; omega) fun p2 H7 s7 hp7 => ?_
    refine ⟨_, rfl, _, rfl, (by show 3 ≤ sizeLine; decide), fun b2 nb2 => ?_⟩
    have S8 : Same H7 (upd H7 b2 (.tup [V.ref p2, V.ref q, cV c])) := same_upd nb2
    have S58 := (S6.trans s7).trans S8
    have O2 : OddB (upd H7 b2 (.tup [V.ref p2, V.ref q, cV c])) b2 :=
      ⟨LI lw n ++ [0], LI hg n, c, p2, q, ⟨fun B => by have := B.1; rw [List.length_append] at this; simp at this; omega, by rw [List.length_append]; show _ + 1 ≤ 10; omega, by omega, fun x h => (List.mem_append.mp h).elim (okx x) fun h => by rw [List.mem_singleton.mp h]; exact intOkS (by decide) (by decide), oky, oc⟩, upd_same, by rw [List.map_append]; exact S8 _ _ hp7, S58 _ _ (S5 _ _ hq4)⟩
    generalize upd H7 b2 (.tup [V.ref p2, V.ref q, cV c]) = H8 at S58 O2 ⊢
    clear S6 s7 hp7 S8 nb2 nt2
    refine ⟨_, rfl, _, rfl, (by show 1 ≤ sizeLine; decide), fun t3 nt3 => ?_⟩
    have S9 : Same H8 (upd H8 t3 (.tup [V.int 7])) := same_upd nt3
    refine cat_go (S9 _ _ (S58 _ _ (S5 _ _ hq4))) upd_same (by rw [ly]; show n + 1 ≤ 1000; omega) fun q3 H10 s10 hq10 => ?_
    refine ⟨_, rfl, (by show 3 ≤ sizeLine; decide), fun b3 nb3 => ?_⟩
    have S11 : Same H10 (upd H10 b3 (.tup [V.ref p, V.ref q3, cV c])) := same_upd nb3
    have S811 := (S9.trans s10).trans S11
    have O3 : OddB (upd H10 b3 (.tup [V.ref p, V.ref q3, cV c])) b3 :=
      ⟨LI lw n, LI hg n ++ [7], c, p, q3, ⟨fun B => by have := B.1; rw [List.length_append] at this; simp at this; omega, by omega, by rw [List.length_append]; show _ + 1 ≤ 10; omega, okx, fun x h => (List.mem_append.mp h).elim (oky x) fun h => by rw [List.mem_singleton.mp h]; exact intOkS (by decide) (by decide), oc⟩, upd_same, S811 _ _ (S58 _ _ (S5 _ _ hp4)), by rw [List.map_append]; exact S11 _ _ hq10⟩
    generalize upd H10 b3 (.tup [V.ref p, V.ref q3, cV c]) = H11 at S811 O3 ⊢
    clear S9 s10 hq10 S11 nb3 nt3
    refine ⟨(by show 1 ≤ sizeLine; decide), fun t4 nt4 => ?_⟩
    refine ⟨t4, 4, _, rfl, rfl, SqT.of upd_same, by simp, by decide, by decide, by simp, fun p5 np5 => ?_⟩
    refine ⟨(by show 1 ≤ sizeLine; decide), fun t5 nt5 => ?_⟩
    refine ⟨t5, 4, _, rfl, rfl, SqT.of upd_same, by simp, by decide, by decide, by simp, fun q5 nq5 => ?_⟩
    refine ⟨_, rfl, (by show 3 ≤ sizeLine; decide), fun b4 nb4 => ?_⟩
    have S12 : Same H11 (upd (upd (upd (upd (upd H11 t4 (.tup [V.int 0])) p5 (.tup (List.replicate (4 : Int).toNat [V.int 0]).flatten)) t5 (.tup [V.int 3])) q5 (.tup (List.replicate (4 : Int).toNat [V.int 3]).flatten)) b4 (.tup [V.ref p5, V.ref q5, cV c])) := ((((same_upd nt4).trans (same_upd np5)).trans (same_upd nt5)).trans (same_upd nq5)).trans (same_upd nb4)
    have O4 : OddB (upd (upd (upd (upd (upd H11 t4 (.tup [V.int 0])) p5 (.tup (List.replicate (4 : Int).toNat [V.int 0]).flatten)) t5 (.tup [V.int 3])) q5 (.tup (List.replicate (4 : Int).toNat [V.int 3]).flatten)) b4 (.tup [V.ref p5, V.ref q5, cV c])) b4 :=
      ⟨[0, 0, 0, 0], [3, 3, 3, 3], c, p5, q5, ⟨fun B => by have := B.2.2.1; simp at this, by decide, by decide, fun x h => by
        have : x = 0 := by simpa using h
        rw [this]; exact intOkS (by decide) (by decide), fun x h => by
        have : x = 3 := by simpa using h
        rw [this]; exact intOkS (by decide) (by decide), oc⟩, upd_same, same_upd nb4 _ _ (same_upd nq5 _ _ (same_upd nt5 _ _ upd_same)), same_upd nb4 _ _ upd_same⟩
    generalize upd (upd (upd (upd (upd H11 t4 (.tup [V.int 0])) p5 (.tup (List.replicate (4 : Int).toNat [V.int 0]).flatten)) t5 (.tup [V.int 3])) q5 (.tup (List.replicate (4 : Int).toNat [V.int 3]).flatten)) b4 (.tup [V.ref p5, V.ref q5, cV c]) = H12 at S12 O4 ⊢
    clear nt4 np5 nt5 nq5 nb4
    refine ⟨(by show 4 ≤ sizeLine; decide), fun r nr => ?_⟩
    have S13 : Same H12 (upd H12 r (.lst [V.ref b1, V.ref b2, V.ref b3, V.ref b4])) := same_upd nr
    have s412 : Same H4 H12 := ((S5.trans S58).trans S811).trans S12
    have hO : ∀ t ∈ [b1, b2, b3, b4], OddB (upd H12 r (.lst [V.ref b1, V.ref b2, V.ref b3, V.ref b4])) t := fun t ht => by
      have S : ∀ c xs, H12 c = some (.tup xs) → (upd H12 r (.lst [V.ref b1, V.ref b2, V.ref b3, V.ref b4])) c = some (.tup xs) := fun c xs e => S13 _ _ e
      simp only [List.mem_cons, List.not_mem_nil, or_false] at ht
      rcases ht with rfl | rfl | rfl | rfl
      · exact (O1.mono fun c xs e => ((S58.trans S811).trans S12) _ _ e).mono S
      · exact (O2.mono fun c xs e => (S811.trans S12) _ _ e).mono S
      · exact (O3.mono fun c xs e => S12 _ _ e).mono S
      · exact O4.mono S
    have kk : Keep [s] H4 (upd H12 r (.lst [V.ref b1, V.ref b2, V.ref b3, V.ref b4])) := Keep.same (s412.trans S13)
    have tp : ∀ c xs, H4 c = some (.tup xs) → (upd H12 r (.lst [V.ref b1, V.ref b2, V.ref b3, V.ref b4])) c = some (.tup xs) := fun c xs e => (s412.trans S13) _ _ e
    have DC := D4.same (s412.trans S13)
    have hr : (upd H12 r (.lst [V.ref b1, V.ref b2, V.ref b3, V.ref b4])) r = some (.lst (([b1, b2, b3, b4] : List Addr).map V.ref)) := upd_same
    have rN : H4 r = none := s412.free nr
    have rs : s ≠ r := fun z => D4.ns rN (by rw [z]; exact List.mem_singleton.mpr rfl)
    have rsN : r ∉ [s] := fun z => rs (List.mem_singleton.mp z).symm
    have lt : ([b1, b2, b3, b4] : List Addr).length = 4 := rfl
    generalize upd H12 r (.lst [V.ref b1, V.ref b2, V.ref b3, V.ref b4]) = HC at hO kk tp DC hr ⊢
    generalize ([b1, b2, b3, b4] : List Addr) = ts at hO hr lt ⊢
    clear S12 O4 S13 s412 O1 O2 O3 S5 S58 S811 nr
    refine gName_go ?_
    dsimp only
    refine seq_go ?_
    -- 5
    refine ⟨_, rfl, .inl ⟨rfl, _, SqL.of hr⟩, _, rfl, _, rfl, _, rfl, slTo_go (tp _ _ hp4) fun z1 G1 g1 hz1 => ?_⟩
    have DG1 := DC.same g1
    refine ⟨_, _, rfl, rfl, _, rfl, _, rfl, s, sc, ns, far, rfl, DG1, f1, by have := intOk59 (x := far) (by omega) (by omega); unfold IntOk at this; omega, fun d G2 a2 b2 k2 DG2 => ⟨_, _, rfl, rfl, (by show 1 ≤ sizeLine; decide), fun z2 nz2 => ?_⟩⟩
    have tpG : ∀ c xs, HC c = some (.tup xs) → G2 c = some (.tup xs) := fun c xs e => DG1.tups k2 _ _ (g1 _ _ e)
    have kG : Keep [s] HC G2 := (Keep.same g1).trans k2
    have hz1' := DG1.tups k2 _ _ hz1
    have g3 : Same G2 (upd G2 z2 (.tup [V.int (0 - 1 - d)])) := same_upd nz2
    refine cat_go (g3 _ _ hz1') upd_same (by rw [List.length_take, lx, List.length_singleton]; omega) fun z4 G4 g4 hz4 => ?_
    have g34 := g3.trans g4
    refine ⟨_, rfl, _, rfl, _, _, rfl, rfl, ((k' + 1 : Nat) : Int), congrArg V.int e1', ?_⟩
    dsimp only [tNoPart]
    refine slFrom_go (j := k' + 1) (g34 _ _ (tpG _ _ (tp _ _ hp4))) (by rw [lx]; omega) fun z5 G5 g5 hz5 => ?_
    have g35 := g34.trans g5
    refine cat_go (g5 _ _ hz4) hz5 (by rw [List.length_append, List.length_take, List.length_drop, lx, List.length_singleton]; omega) fun z6 G6 g6 hz6 => ?_
    have g36 := g35.trans g6
    rw [upd_list _ _ kx] at hz6
    refine ⟨_, rfl, _, rfl, (by show 3 ≤ sizeLine; decide), fun z7 nz7 => ?_⟩
    have g7 : Same G6 (upd G6 z7 (.tup [V.ref z6, V.ref q, cV c])) := same_upd nz7
    have g37 := g36.trans g7
    have kC : Keep [s] HC (upd G6 z7 (.tup [V.ref z6, V.ref q, cV c])) := kG.trans (Keep.same g37)
    have tpC : ∀ c' xs, HC c' = some (.tup xs) → (upd G6 z7 (.tup [V.ref z6, V.ref q, cV c])) c' = some (.tup xs) := fun c' xs e => g37 _ _ (tpG _ _ e)
    have hrC := kC _ _ hr rsN
    have OO : OddB (upd G6 z7 (.tup [V.ref z6, V.ref q, cV c])) z7 := ⟨(LI lw n).set k' (0 - 1 - d), LI hg n, c, z6, q, setx _ (intOk59 (by omega) (by omega)) (by omega), upd_same, g7 _ _ hz6, tpC _ _ (tp _ _ hq4)⟩
    have DC' := DG2.same g37
    generalize upd G6 z7 (.tup [V.ref z6, V.ref q, cV c]) = HD at kC tpC hrC OO DC' ⊢
    refine ⟨r, _, _, rfl, rfl, hrC, small1000 (by rw [List.length_map]; omega), ?_⟩
    replace DC : Drw K (upd HD r (.lst (ts.map V.ref ++ [V.ref z7]))) s sc ns := D4.over (kk.trans kC) DC' rN
    replace kk : Keep [s] H4 (upd HD r (.lst (ts.map V.ref ++ [V.ref z7]))) := fun c u e z => by
      rw [upd_ne (fun q => by rw [q, rN] at e; cases e)]
      exact (kk.trans kC) c u e z
    have tpD : ∀ c xs, HD c = some (.tup xs) → (upd HD r (.lst (ts.map V.ref ++ [V.ref z7]))) c = some (.tup xs) := fun c xs e => by
      rw [upd_ne (fun q => by rw [q, hrC] at e; cases e)]
      exact e
    replace tp : ∀ c xs, H4 c = some (.tup xs) → (upd HD r (.lst (ts.map V.ref ++ [V.ref z7]))) c = some (.tup xs) := fun c xs e => tpD _ _ (tpC _ _ (tp _ _ e))
    replace hO : ∀ t ∈ ts ++ [z7], OddB (upd HD r (.lst (ts.map V.ref ++ [V.ref z7]))) t := fun t ht => (List.mem_append.mp ht).elim (fun h => ((hO t h).mono tpC).mono tpD) fun h => by rw [List.mem_singleton.mp h]; exact OO.mono tpD
    replace hr : (upd HD r (.lst (ts.map V.ref ++ [V.ref z7]))) r = some (.lst ((ts ++ [z7]).map V.ref)) := by
      rw [upd_same, List.map_append]
      rfl
    have lt' : (ts ++ [z7]).length = 5 := by rw [List.length_append, lt]; rfl
    clear lt hrC tpD tpC kC OO DC' g1 hz1 nz2 g3 hz4 g4 g34 g5 hz5 g35 g6 hz6 g36 nz7 g7 g37 tpG kG hz1' DG2 DG1 k2
    generalize upd HD r (.lst (ts.map V.ref ++ [V.ref z7])) = HC at kk tp hO DC hr ⊢
    generalize ts ++ [z7] = ts at hO hr lt' ⊢
    have lt := lt'
    clear lt'
    try dsimp only
    try refine seq_go ?_
    -- 6
    refine ⟨_, rfl, .inl ⟨rfl, _, SqL.of hr⟩, _, rfl, _, rfl, _, rfl, _, rfl, slTo_go (tp _ _ hq4) fun z1 G1 g1 hz1 => ?_⟩
    have DG1 := DC.same g1
    refine ⟨_, rfl, _, rfl, s, sc, ns, far, rfl, DG1, f1, by have := intOk59 (x := far) (by omega) (by omega); unfold IntOk at this; omega, fun d G2 a2 b2 k2 DG2 => ⟨_, _, rfl, rfl, (by show 1 ≤ sizeLine; decide), fun z2 nz2 => ?_⟩⟩
    have tpG : ∀ c xs, HC c = some (.tup xs) → G2 c = some (.tup xs) := fun c xs e => DG1.tups k2 _ _ (g1 _ _ e)
    have kG : Keep [s] HC G2 := (Keep.same g1).trans k2
    have hz1' := DG1.tups k2 _ _ hz1
    have g3 : Same G2 (upd G2 z2 (.tup [V.int (8 + d)])) := same_upd nz2
    refine cat_go (g3 _ _ hz1') upd_same (by rw [List.length_take, ly, List.length_singleton]; omega) fun z4 G4 g4 hz4 => ?_
    have g34 := g3.trans g4
    refine ⟨_, rfl, _, rfl, _, _, rfl, rfl, ((k' + 1 : Nat) : Int), congrArg V.int e1', ?_⟩
    dsimp only [tNoPart]
    refine slFrom_go (j := k' + 1) (g34 _ _ (tpG _ _ (tp _ _ hq4))) (by rw [ly]; omega) fun z5 G5 g5 hz5 => ?_
    have g35 := g34.trans g5
    refine cat_go (g5 _ _ hz4) hz5 (by rw [List.length_append, List.length_take, List.length_drop, ly, List.length_singleton]; omega) fun z6 G6 g6 hz6 => ?_
    have g36 := g35.trans g6
    rw [upd_list _ _ ky] at hz6
    refine ⟨_, rfl, (by show 3 ≤ sizeLine; decide), fun z7 nz7 => ?_⟩
    have g7 : Same G6 (upd G6 z7 (.tup [V.ref p, V.ref z6, cV c])) := same_upd nz7
    have g37 := g36.trans g7
    have kC : Keep [s] HC (upd G6 z7 (.tup [V.ref p, V.ref z6, cV c])) := kG.trans (Keep.same g37)
    have tpC : ∀ c' xs, HC c' = some (.tup xs) → (upd G6 z7 (.tup [V.ref p, V.ref z6, cV c])) c' = some (.tup xs) := fun c' xs e => g37 _ _ (tpG _ _ e)
    have hrC := kC _ _ hr rsN
    have OO : OddB (upd G6 z7 (.tup [V.ref p, V.ref z6, cV c])) z7 := ⟨LI lw n, (LI hg n).set k' (8 + d), c, p, z6, sety _ c (intOk59 (by omega) (by omega)) oc (by omega), upd_same, tpC _ _ (tp _ _ hp4), g7 _ _ hz6⟩
    have DC' := DG2.same g37
    generalize upd G6 z7 (.tup [V.ref p, V.ref z6, cV c]) = HD at kC tpC hrC OO DC' ⊢
    refine ⟨r, _, _, rfl, rfl, hrC, small1000 (by rw [List.length_map]; omega), ?_⟩
    replace DC : Drw K (upd HD r (.lst (ts.map V.ref ++ [V.ref z7]))) s sc ns := D4.over (kk.trans kC) DC' rN
    replace kk : Keep [s] H4 (upd HD r (.lst (ts.map V.ref ++ [V.ref z7]))) := fun c u e z => by
      rw [upd_ne (fun q => by rw [q, rN] at e; cases e)]
      exact (kk.trans kC) c u e z
    have tpD : ∀ c xs, HD c = some (.tup xs) → (upd HD r (.lst (ts.map V.ref ++ [V.ref z7]))) c = some (.tup xs) := fun c xs e => by
      rw [upd_ne (fun q => by rw [q, hrC] at e; cases e)]
      exact e
    replace tp : ∀ c xs, H4 c = some (.tup xs) → (upd HD r (.lst (ts.map V.ref ++ [V.ref z7]))) c = some (.tup xs) := fun c xs e => tpD _ _ (tpC _ _ (tp _ _ e))
    replace hO : ∀ t ∈ ts ++ [z7], OddB (upd HD r (.lst (ts.map V.ref ++ [V.ref z7]))) t := fun t ht => (List.mem_append.mp ht).elim (fun h => ((hO t h).mono tpC).mono tpD) fun h => by rw [List.mem_singleton.mp h]; exact OO.mono tpD
    replace hr : (upd HD r (.lst (ts.map V.ref ++ [V.ref z7]))) r = some (.lst ((ts ++ [z7]).map V.ref)) := by
      rw [upd_same, List.map_append]
      rfl
    have lt' : (ts ++ [z7]).length = 6 := by rw [List.length_append, lt]; rfl
    clear lt hrC tpD tpC kC OO DC' g1 hz1 nz2 g3 hz4 g4 g34 g5 hz5 g35 g6 hz6 g36 nz7 g7 g37 tpG kG hz1' DG2 DG1 k2
    generalize upd HD r (.lst (ts.map V.ref ++ [V.ref z7])) = HC at kk tp hO DC hr ⊢
    generalize ts ++ [z7] = ts at hO hr lt' ⊢
    have lt := lt'
    clear lt'
    try dsimp only
    try refine seq_go ?_
    -- 7
    refine ⟨_, rfl, .inl ⟨rfl, _, SqL.of hr⟩, _, rfl, _, rfl, _, rfl, slTo_go (tp _ _ hp4) fun z1 G1 g1 hz1 => ?_⟩
    refine ⟨_, rfl, _, rfl, q, _, (k' : Int), _, rfl, rfl, SqT.of (g1 _ _ (tp _ _ hq4)), atI_nat (by rw [List.getElem?_map, LI_at _ hk]; rfl), _, _, rfl, rfl, (by show 1 ≤ sizeLine; decide), fun z2 nz2 => ?_⟩
    have DG2 := DC.same g1
    have tpG : ∀ c xs, HC c = some (.tup xs) → G1 c = some (.tup xs) := fun c xs e => g1 _ _ e
    have kG : Keep [s] HC G1 := Keep.same g1
    have hz1' := hz1
    have g3 : Same G1 (upd G1 z2 (.tup [V.int (hg k' + 1)])) := same_upd nz2
    refine cat_go (g3 _ _ hz1') upd_same (by rw [List.length_take, lx, List.length_singleton]; omega) fun z4 G4 g4 hz4 => ?_
    have g34 := g3.trans g4
    refine ⟨_, rfl, _, rfl, _, _, rfl, rfl, ((k' + 1 : Nat) : Int), congrArg V.int e1', ?_⟩
    dsimp only [tNoPart]
    refine slFrom_go (j := k' + 1) (g34 _ _ (tpG _ _ (tp _ _ hp4))) (by rw [lx]; omega) fun z5 G5 g5 hz5 => ?_
    have g35 := g34.trans g5
    refine cat_go (g5 _ _ hz4) hz5 (by rw [List.length_append, List.length_take, List.length_drop, lx, List.length_singleton]; omega) fun z6 G6 g6 hz6 => ?_
    have g36 := g35.trans g6
    rw [upd_list _ _ kx] at hz6
    refine ⟨_, rfl, _, rfl, (by show 3 ≤ sizeLine; decide), fun z7 nz7 => ?_⟩
    have g7 : Same G6 (upd G6 z7 (.tup [V.ref z6, V.ref q, cV c])) := same_upd nz7
    have g37 := g36.trans g7
    have kC : Keep [s] HC (upd G6 z7 (.tup [V.ref z6, V.ref q, cV c])) := kG.trans (Keep.same g37)
    have tpC : ∀ c' xs, HC c' = some (.tup xs) → (upd G6 z7 (.tup [V.ref z6, V.ref q, cV c])) c' = some (.tup xs) := fun c' xs e => g37 _ _ (tpG _ _ e)
    have hrC := kC _ _ hr rsN
    have OO : OddB (upd G6 z7 (.tup [V.ref z6, V.ref q, cV c])) z7 := ⟨(LI lw n).set k' (hg k' + 1), LI hg n, c, z6, q, setx _ (intOkS (by omega) (by omega)) (by omega), upd_same, g7 _ _ hz6, tpC _ _ (tp _ _ hq4)⟩
    have DC' := DG2.same g37
    generalize upd G6 z7 (.tup [V.ref z6, V.ref q, cV c]) = HD at kC tpC hrC OO DC' ⊢
    refine ⟨r, _, _, rfl, rfl, hrC, small1000 (by rw [List.length_map]; omega), ?_⟩
    replace DC : Drw K (upd HD r (.lst (ts.map V.ref ++ [V.ref z7]))) s sc ns := D4.over (kk.trans kC) DC' rN
    replace kk : Keep [s] H4 (upd HD r (.lst (ts.map V.ref ++ [V.ref z7]))) := fun c u e z => by
      rw [upd_ne (fun q => by rw [q, rN] at e; cases e)]
      exact (kk.trans kC) c u e z
    have tpD : ∀ c xs, HD c = some (.tup xs) → (upd HD r (.lst (ts.map V.ref ++ [V.ref z7]))) c = some (.tup xs) := fun c xs e => by
      rw [upd_ne (fun q => by rw [q, hrC] at e; cases e)]
      exact e
    replace tp : ∀ c xs, H4 c = some (.tup xs) → (upd HD r (.lst (ts.map V.ref ++ [V.ref z7]))) c = some (.tup xs) := fun c xs e => tpD _ _ (tpC _ _ (tp _ _ e))
    replace hO : ∀ t ∈ ts ++ [z7], OddB (upd HD r (.lst (ts.map V.ref ++ [V.ref z7]))) t := fun t ht => (List.mem_append.mp ht).elim (fun h => ((hO t h).mono tpC).mono tpD) fun h => by rw [List.mem_singleton.mp h]; exact OO.mono tpD
    replace hr : (upd HD r (.lst (ts.map V.ref ++ [V.ref z7]))) r = some (.lst ((ts ++ [z7]).map V.ref)) := by
      rw [upd_same, List.map_append]
      rfl
    have lt' : (ts ++ [z7]).length = 7 := by rw [List.length_append, lt]; rfl
    clear lt hrC tpD tpC kC OO DC' g1 hz1 nz2 g3 hz4 g4 g34 g5 hz5 g35 g6 hz6 g36 nz7 g7 g37 tpG kG hz1' DG2
    generalize upd HD r (.lst (ts.map V.ref ++ [V.ref z7])) = HC at kk tp hO DC hr ⊢
    generalize ts ++ [z7] = ts at hO hr lt' ⊢
    have lt := lt'
    clear lt'
    try dsimp only
    try refine seq_go ?_
    -- 8
    refine ⟨_, rfl, .inl ⟨rfl, _, SqL.of hr⟩, _, rfl, _, rfl, _, rfl, _, rfl, slTo_go (tp _ _ hq4) fun z1 G1 g1 hz1 => ?_⟩
    refine ⟨_, _, rfl, rfl, (by show 1 ≤ sizeLine; decide), fun z2 nz2 => ?_⟩
    have DG2 := DC.same g1
    have tpG : ∀ c xs, HC c = some (.tup xs) → G1 c = some (.tup xs) := fun c xs e => g1 _ _ e
    have kG : Keep [s] HC G1 := Keep.same g1
    have hz1' := hz1
    have g3 : Same G1 (upd G1 z2 (.tup [V.int (0 - 1)])) := same_upd nz2
    refine cat_go (g3 _ _ hz1') upd_same (by rw [List.length_take, ly, List.length_singleton]; omega) fun z4 G4 g4 hz4 => ?_
    have g34 := g3.trans g4
    refine ⟨_, rfl, _, rfl, _, _, rfl, rfl, ((k' + 1 : Nat) : Int), congrArg V.int e1', ?_⟩
    dsimp only [tNoPart]
    refine slFrom_go (j := k' + 1) (g34 _ _ (tpG _ _ (tp _ _ hq4))) (by rw [ly]; omega) fun z5 G5 g5 hz5 => ?_
    have g35 := g34.trans g5
    refine cat_go (g5 _ _ hz4) hz5 (by rw [List.length_append, List.length_take, List.length_drop, ly, List.length_singleton]; omega) fun z6 G6 g6 hz6 => ?_
    have g36 := g35.trans g6
    rw [upd_list _ _ ky] at hz6
    refine ⟨(by show 3 ≤ sizeLine; decide), fun z7 nz7 => ?_⟩
    have g7 : Same G6 (upd G6 z7 (.tup [V.ref p, V.ref z6, V.non])) := same_upd nz7
    have g37 := g36.trans g7
    have kC : Keep [s] HC (upd G6 z7 (.tup [V.ref p, V.ref z6, V.non])) := kG.trans (Keep.same g37)
    have tpC : ∀ c' xs, HC c' = some (.tup xs) → (upd G6 z7 (.tup [V.ref p, V.ref z6, V.non])) c' = some (.tup xs) := fun c' xs e => g37 _ _ (tpG _ _ e)
    have hrC := kC _ _ hr rsN
    have OO : OddB (upd G6 z7 (.tup [V.ref p, V.ref z6, V.non])) z7 := ⟨LI lw n, (LI hg n).set k' (0 - 1), none, p, z6, sety _ none (log_abs rfl (by decide)) cOk_none (by omega), upd_same, tpC _ _ (tp _ _ hp4), g7 _ _ hz6⟩
    have DC' := DG2.same g37
    generalize upd G6 z7 (.tup [V.ref p, V.ref z6, V.non]) = HD at kC tpC hrC OO DC' ⊢
    refine ⟨r, _, _, rfl, rfl, hrC, small1000 (by rw [List.length_map]; omega), ?_⟩
    replace DC : Drw K (upd HD r (.lst (ts.map V.ref ++ [V.ref z7]))) s sc ns := D4.over (kk.trans kC) DC' rN
    replace kk : Keep [s] H4 (upd HD r (.lst (ts.map V.ref ++ [V.ref z7]))) := fun c u e z => by
      rw [upd_ne (fun q => by rw [q, rN] at e; cases e)]
      exact (kk.trans kC) c u e z
    have tpD : ∀ c xs, HD c = some (.tup xs) → (upd HD r (.lst (ts.map V.ref ++ [V.ref z7]))) c = some (.tup xs) := fun c xs e => by
      rw [upd_ne (fun q => by rw [q, hrC] at e; cases e)]
      exact e
    replace tp : ∀ c xs, H4 c = some (.tup xs) → (upd HD r (.lst (ts.map V.ref ++ [V.ref z7]))) c = some (.tup xs) := fun c xs e => tpD _ _ (tpC _ _ (tp _ _ e))
    replace hO : ∀ t ∈ ts ++ [z7], OddB (upd HD r (.lst (ts.map V.ref ++ [V.ref z7]))) t := fun t ht => (List.mem_append.mp ht).elim (fun h => ((hO t h).mono tpC).mono tpD) fun h => by rw [List.mem_singleton.mp h]; exact OO.mono tpD
    replace hr : (upd HD r (.lst (ts.map V.ref ++ [V.ref z7]))) r = some (.lst ((ts ++ [z7]).map V.ref)) := by
      rw [upd_same, List.map_append]
      rfl
    have lt' : (ts ++ [z7]).length = 8 := by rw [List.length_append, lt]; rfl
    clear lt hrC tpD tpC kC OO DC' g1 hz1 nz2 g3 hz4 g4 g34 g5 hz5 g35 g6 hz6 g36 nz7 g7 g37 tpG kG hz1' DG2
    generalize upd HD r (.lst (ts.map V.ref ++ [V.ref z7])) = HC at kk tp hO DC hr ⊢
    generalize ts ++ [z7] = ts at hO hr lt' ⊢
    have lt := lt'
    clear lt'
    try dsimp only
    refine ⟨_, rfl, _, rfl, s, sc, ns, 8, rfl, DC, by decide, by decide, fun j HE a b kE DE => ?_⟩
    obtain ⟨j', rfl⟩ := Int.eq_ofNat_of_zero_le a
    have hj : j' < ts.length := by omega
    have ej : ts[j']? = some ts[j'] := List.getElem?_eq_getElem hj
    refine ⟨r, _, (j' : Int), _, rfl, rfl, SqL.of (kE _ _ hr rsN), atI_nat (by rw [List.getElem?_map, ej]; rfl), ?_⟩
    exact k _ HE ((hO _ (List.getElem_mem hj)).mono (DC.tups kE)) ((k14.trans kk).trans kE) DE
end
end Nu
namespace Nu
open PySem PySem.Spec PyProof.Rows L2
/-! ### the list of lambdas -/
def lamIn : Stmt → Option Cl.LamD
  | .Assign _ (.List [.Lambda p b s _] _) _ => some ⟨p, b, s⟩
  | .Expr (.Call _ [.Lambda p b s _] _ _) _ => some ⟨p, b, s⟩
  | _ => none
def Dw (i : Nat) : Cl.LamD := (((defBody s_l_works)[i]?).bind lamIn).getD ⟨defArgs s_l_works, .Constant .none 0 ⟨0, 0, 0, 0⟩, defScope s_l_works⟩
def wQ : Str := (envOfC "_law_works" (defScope s_l_works) 0 0 .none).qual ++ "<lambda>"
abbrev NW : List Str := ["_law_box_here", "_law_works_here"]
theorem dw_scope : ∀ i, i < 6 → LamX.lamSB (defScope s_l_works) (Dw i).scope = true := by decide +kernel
/-- what each does -/
def tw (ad : Ad) : Nat → XK → TE
  | 0 => fun E => tCall (spTight ad) [] E (tCons (tVar 0) tNil)
  | 1 => fun E => tCall (spSettled ad) [] E (tCons (tVar 0) tNil)
  | 2 => fun E => tCall (spBehind ad) [] E (tCons (tVar 0) (tCons (tTup (tCons (tC (.int 9)) (tCons (tC (.int 9)) tNil))) tNil))
  | 3 => fun E => tCall (spNo ad fun vs v => vs = [v]) [] E (tCons (tVar 0) tNil)
  | 4 => fun E => tCall (spNo ad fun vs v => vs = [v]) [] E (tCons (tVar 0) tNil)
  | _ => fun E => tCall (spNo ad fun vs v => ∃ x y, vs = [v, x, y]) [] E (tCons (tVar 0) (tCons (tC (.int 0)) (tCons (tLst (tCons (tTup (tCons (tTup (tCons (tC (.int 0)) tNil)) (tCons (tTup (tCons (tOp (rI0 fun i j => .int (i - j)) (tC (.int 0)) (tC (.int 1))) tNil)) (tCons (tC (.int 1)) tNil)))) tNil)) tNil)))
theorem passF {P : Program} {w : World} {K : PySem.W.Frag} {mg : Str → Option Value} {base : Heap} {N : List Str} {q : Str} {sc : Scope} {cells : List (Str × Addr)} {A : Around} {outer : List Env} {s : Shared} {H : Hp} {E : XK} {f c' : Addr} : Passes (L2.CX P w) (Cl.lcx P w K mg base N q sc cells A outer s H E f c') E :=
  passes_call (W := fun cls d _ H' => E cls d H') (takes_of rfl rfl rfl rfl) (fun _ _ _ _ h => h)
section
variable {P : Program} {w : World} {K : PySem.W.Frag} {mg : Str → Option Value} {base : Heap} {ad : Ad} {fd : Fd}
theorem dw_ok (T : Txt K mg ad fd) : ∀ i, i < 6 → LamX.LamS (defScope s_l_works) (Dw i).scope ∧ (∀ (cl : List (Str × Addr)) (pm cv ctv : Value), bindArgs (PySem.W.kla_fn "<lambda>" wQ (Dw i).params (Dw i).body (Dw i).scope cl pm cv ctv) ⟨[], []⟩ = pure []) ∧
      ∀ (cells : List (Str × Addr)) (A : Around) (outer : List Env) (s : Shared) (H : Hp) (E : XK) (f c' : Addr), Room 5 (A.deeper (Cl.lenv wQ (Dw i).scope cells s.heap.objs.size f c')) → PE (Cl.lcx P w K mg base NW wQ (Dw i).scope cells A outer s H E f c') (Dw i).body (tw ad i E) := by
  have G_tight := ok_tight (P := P) (w := w) (base := base) T
  have G_is_settled := ok_is_settled (P := P) (w := w) (base := base) T
  have G_behind := ok_behind (P := P) (w := w) (base := base) T
  have G_least := ok_least (P := P) (w := w) (base := base) T
  have G_paper := ok_paper (P := P) (w := w) (base := base) T
  have G_shows := ok_shows (P := P) (w := w) (base := base) T
  intro i hi
  refine ⟨LamX.lamS_by (dw_scope i hi), ?_⟩
  match i, hi with
  | 0, _ => exact ⟨fun _ _ _ _ => rfl, fun cells A outer s H E f c' hr => pe_call G_tight (hr.mono (by decide)) (by rfl) T.g_tight T.F_tight.kp T.b_tight .nil passF (pa_cons (pv 0) pa_nil)⟩
  | 1, _ => exact ⟨fun _ _ _ _ => rfl, fun cells A outer s H E f c' hr => pe_call G_is_settled (hr.mono (by decide)) (by rfl) T.g_is_settled T.F_is_settled.kp T.b_is_settled .nil passF (pa_cons (pv 0) pa_nil)⟩
  | 2, _ => exact ⟨fun _ _ _ _ => rfl, fun cells A outer s H E f c' hr => pe_call G_behind (hr.mono (by decide)) (by rfl) T.g_behind T.F_behind.kp T.b_behind .nil passF (pa_cons (pv 0) (pa_cons (pe_tup (pa_cons pe_int (pa_cons pe_int pa_nil))) pa_nil))⟩
  | 3, _ => exact ⟨fun _ _ _ _ => rfl, fun cells A outer s H E f c' hr => pe_call G_least (hr.mono (by decide)) (by rfl) T.g_least T.F_least.kp T.b_least .nil passF (pa_cons (pv 0) pa_nil)⟩
  | 4, _ => exact ⟨fun _ _ _ _ => rfl, fun cells A outer s H E f c' hr => pe_call G_paper (hr.mono (by decide)) (by rfl) T.g_paper T.F_paper.kp T.b_paper .nil passF (pa_cons (pv 0) pa_nil)⟩
  | 5, _ => exact ⟨fun _ _ _ _ => rfl, fun cells A outer s H E f c' hr => pe_call G_shows (hr.mono (by decide)) (by rfl) T.g_shows T.F_shows.kp T.b_shows .nil passF (pa_cons (pv 0) (pa_cons pe_int (pa_cons (pe_lst (pa_cons (pe_tup (pa_cons (pe_tup (pa_cons pe_int pa_nil)) (pa_cons (pe_tup (pa_cons (pe_op op_sub pe_int pe_int) pa_nil)) (pa_cons pe_int pa_nil)))) pa_nil)) pa_nil)))⟩
/-- what is refused by each -/
theorem tw_no {v : V} {lw hg : Nat → Int} {n m : Nat} {c : Option Int} {r : Option V} {E : XK} {H : Hp} {Q : VK} (B : BoxH H v lw hg n m c) (ok : BOk lw hg n m c) (kb : isB lw hg n m → badC (sumF lw n) (sumF hg n) c) (k1 : ¬ isB lw hg n m → ∀ H', Same H H' → E (.ref ad.NoBox) none H')
    (k2 : isB lw hg n m → badC (sumF lw n) (sumF hg n) c → ∀ H', Same H H' → E (.ref ad.NoWorld) none H') : ∀ i, i < 6 → tw ad i E [some v, r] H Q := by
  intro i hi
  match i, hi with
  | 0, _ => exact ⟨_, rfl, v, lw, hg, n, m, c, rfl, B, ok, k1, k2, fun ib nb => absurd (kb ib) nb⟩
  | 1, _ => exact ⟨_, rfl, v, lw, hg, n, m, c, rfl, B, ok, k1, k2, fun ib nb => absurd (kb ib) nb⟩
  | 2, _ =>
    refine ⟨_, rfl, (by show 2 ≤ sizeLine; decide), fun t nt => ?_⟩
    have s1 : Same H (upd H t (.tup [V.int 9, V.int 9])) := same_upd nt
    exact ⟨v, t, lw, hg, n, m, c, 9, 9, rfl, B.same s1, ok, upd_same, fun ib H' s => k1 ib H' (s1.trans s), fun ib b H' s => k2 ib b H' (s1.trans s), fun ib nb => absurd (kb ib) nb, fun _ _ _ ib nb => absurd (kb ib) nb⟩
  | 3, _ => exact ⟨_, rfl, v, lw, hg, n, m, c, rfl, B, ok, kb, k1, k2⟩
  | 4, _ => exact ⟨_, rfl, v, lw, hg, n, m, c, rfl, B, ok, kb, k1, k2⟩
  | 5, _ =>
    refine ⟨_, rfl, (by show 1 ≤ sizeLine; decide), fun t1 nt1 => ?_⟩
    refine ⟨_, _, rfl, rfl, (by show 1 ≤ sizeLine; decide), fun t2 nt2 => ?_⟩
    refine ⟨(by show 3 ≤ sizeLine; decide), fun t3 nt3 => ?_⟩
    refine ⟨(by show 1 ≤ sizeLine; decide), fun t4 nt4 => ?_⟩
    have s1 := (((same_upd nt1).trans (same_upd nt2)).trans (same_upd nt3)).trans (same_upd (o := .lst [V.ref t3]) nt4)
    exact ⟨v, lw, hg, n, m, c, ⟨_, _, rfl⟩, B.same s1, ok, kb, fun ib H' s => k1 ib H' (s1.trans s), fun ib b H' s => k2 ib b H' (s1.trans s)⟩
end
end Nu
namespace Nu
open PySem PySem.Spec PyProof.Rows L2
theorem tabs_draw {Tl : List (Addr × Str)} {H H' : Hp} {s : Addr} (t : LamX.Tabs Tl H) (k : Keep [s] H H') (hs : ∃ xs, H s = some (.lst xs)) : LamX.Tabs Tl H' := fun p hp => by
  obtain ⟨xs, hs⟩ := hs
  obtain ⟨ps, h1, h2, h3⟩ := t p hp
  have ne : ∀ b u, H b = some u → (∀ ys, u ≠ .lst ys) → H' b = some u := fun b u e' n => k b u e' (fun z => by
    rw [List.mem_singleton.mp z, hs] at e'
    exact n _ (Option.some.inj e').symm)
  refine ⟨ps, ne _ _ h1 (fun ys z => by cases z), h2, fun pos cv hc => ?_⟩
  obtain ⟨c, e1, e2⟩ := h3 pos cv hc
  exact ⟨c, e1, ne _ _ e2 (fun ys z => by unfold LamX.CodeO at z; cases z)⟩
/-- the closures at fs, told by the list at r -/
structure WI (Tl : List (Addr × Str)) (cells : List (Str × Addr)) (H0 H : Hp) (r : Addr) (fs : List Addr) : Prop where
  ex : LamX.ExtN H0 H
  tb : LamX.Tabs Tl H
  nr : ∀ u, H0 r = some u → ∃ ps, u = .tbl ps
  hr : H r = some (.lst (fs.map V.ref))
  at_ : ∀ (i : Nat) (f : Addr), fs[i]? = some f → ∃ c', H f = some (Cl.LamO f wQ (Dw i) cells c') ∧ H c' = some (LamX.CodeO c' wQ)
theorem lamO_nt {f c' : Addr} {q : Str} {D : Cl.LamD} {cells : List (Str × Addr)} (ps : Array Value) : Cl.LamO f q D cells c' ≠ .tbl ps := fun z => by
  unfold Cl.LamO at z
  cases z
theorem lamO_nl {f c' : Addr} {q : Str} {D : Cl.LamD} {cells : List (Str × Addr)} (ps : List V) : Cl.LamO f q D cells c' ≠ .lst ps := fun z => by
  unfold Cl.LamO at z
  cases z
theorem codeO_nl {c : Addr} {q : Str} (ps : List V) : LamX.CodeO c q ≠ .lst ps := fun z => by
  unfold LamX.CodeO at z
  cases z
theorem WI.step {Tl : List (Addr × Str)} {cells : List (Str × Addr)} {H0 H H1 : Hp} {r f c' : Addr} {fs : List Addr} (W : WI Tl cells H0 H r fs) (e1 : LamX.ExtN H H1) (t1 : LamX.Tabs Tl H1) (nf : H1 f = none) (hc : H1 c' = some (LamX.CodeO c' wQ)) :
    WI Tl cells H0 (upd (upd H1 f (Cl.LamO f wQ (Dw fs.length) cells c')) r (.lst (fs.map V.ref ++ [V.ref f]))) r (fs ++ [f]) := by
  have hr1 : H1 r = some (.lst (fs.map V.ref)) := e1 _ _ W.hr fun ps z => by cases z
  have rf : r ≠ f := fun z => by rw [← z, hr1] at nf; cases nf
  have keep : ∀ b u, H1 b = some u → b ≠ r → (upd (upd H1 f (Cl.LamO f wQ (Dw fs.length) cells c')) r (.lst (fs.map V.ref ++ [V.ref f]))) b = some u := fun b u e n => by
    rw [upd_ne n, upd_ne (fun z => by rw [z, nf] at e; cases e)]
    exact e
  have nrx : ∀ b u, H1 b = some u → (∀ xs, u ≠ .lst xs) → b ≠ r := fun b u e n z => by
    rw [z, hr1] at e
    exact n _ (Option.some.inj e).symm
  refine ⟨fun b u e n => keep b u (e1 _ _ (W.ex b u e n) n) fun z => ?_, ?_, W.nr, ?_, fun i g e => ?_⟩
  · rw [z] at e
    obtain ⟨ps, q⟩ := W.nr u e
    exact n ps q
  · exact tabs_draw t1 (fun b u e n => keep b u e fun z => n (List.mem_singleton.mpr z)) ⟨_, hr1⟩
  · rw [upd_same, List.map_append]
    rfl
  · by_cases c : i < fs.length
    · rw [List.getElem?_append_left c] at e
      obtain ⟨c2, h1, h2⟩ := W.at_ i g e
      have g1 := e1 _ _ h1 lamO_nt
      have g2 := e1 _ _ h2 LamX.codeO_ne
      exact ⟨c2, keep _ _ g1 (nrx _ _ g1 lamO_nl), keep _ _ g2 (nrx _ _ g2 codeO_nl)⟩
    · rw [List.getElem?_append_right (by omega)] at e
      have hi := (List.getElem?_eq_some_iff.mp e).1
      simp only [List.length_cons, List.length_nil] at hi
      have hi : i = fs.length := by omega
      subst hi
      rw [Nat.sub_self] at e
      cases e
      exact ⟨c', by rw [upd_ne (Ne.symm rf)]; exact upd_same, keep _ _ hc (nrx _ _ hc codeO_nl)⟩
theorem app_go {K : PySem.W.Frag} {Tl : List (Addr × Str)} {cells : List (Str × Addr)} {H0 G : Hp} {r : Addr} {fs : List Addr} {k : Nat} {σ : L2.St} {Q : VK} (W : WI Tl cells H0 G r fs) (hl : fs.length = k) (h3 : σ[1]? = some (some (.ref r))) (h : ∀ fs' G', WI Tl cells H0 G' r fs' → fs'.length = k + 1 → Q .non G') (hk : k ≤ 6 := by decide) :
    tBM K "list" rAppend (tVar 1) (tCons (Cl.tLamV Tl wQ cells (Dw k)) tNil) σ G Q := by
  subst hl
  refine ⟨_, h3, .inl ⟨rfl, _, SqL.of W.hr⟩, W.tb, fun f c' H1 e1 t1 nf hc => ?_⟩
  have hr1 : H1 r = some (.lst (fs.map V.ref)) := e1 _ _ W.hr fun ps z => by cases z
  have rf : r ≠ f := fun z => by rw [← z, hr1] at nf; cases nf
  refine ⟨r, _, _, rfl, rfl, by rw [upd_ne rf]; exact hr1, small1000 (by rw [List.length_map]; omega), ?_⟩
  exact h (fs ++ [f]) _ (W.step e1 t1 nf hc) (by rw [List.length_append]; rfl)
section
variable {P : Program} {w : World} {K : PySem.W.Frag} {mg : Str → Option Value} {base : Heap} {ad : Ad} {fd : Fd}
def spWorks (Tl : List (Addr × Str)) : Sp := fun vs H Q _ => ∃ (x : V), vs = [x] ∧ LamX.Tabs Tl H ∧ ∀ (r : Addr) (fs : List Addr) (H' : Hp) (cells : List (Str × Addr)) (cs : List Addr), WI Tl cells H H' r fs → fs.length = 6 → Cl.Reg (defScope s_l_works) NW cells cs [some x, some (.ref r)] H' → Q (.ref r) H'
theorem capt_names : ∀ p ∈ (defScope s_l_works).names, (p.2 = .cell ∨ p.2 = .free) → p.1 ∈ (["_law_box_here"] : List Str) := by decide +kernel
theorem capt_back : ∀ y ∈ (["_law_box_here"] : List Str), Cl.capt (defScope s_l_works) y := by decide +kernel
theorem capt_iff (y : Str) : Cl.capt (defScope s_l_works) y ↔ y ∈ (["_law_box_here"] : List Str) :=
  ⟨fun h => h.elim (fun e => capt_names _ (PySem.mem_of_lookup e) (.inl rfl)) fun e => capt_names _ (PySem.mem_of_lookup e) (.inr rfl), capt_back y⟩
theorem ok_l_works (T : Txt K mg ad fd) {Tl : List (Addr × Str)} {c8 P8 : Addr} (hc8 : fd.l_works.code = .ref c8) (TB : LamX.TabB base mg c8 P8) (hm : (P8, wQ) ∈ Tl) (hu : ∀ p ∈ Tl, p.1 = P8 → p.2 = wQ) : FnOk P w K mg base CX0 8 ad.l_works fd.l_works ["_law_box_here"] (spWorks Tl) := by
  obtain ⟨oc, od, kV, doc, pm, an, cdv, ct, osl, e0, lk, hcd⟩ := T.F_l_works.ex
  rw [e0] at hc8 lk ⊢
  have hc8 : cdv = .ref c8 := hc8
  subst hc8
  refine Cl.fn_cells lk hcd sc_l_works (fun vs H Q E h => ?_) (fun A outer s H vs Q E hr h => ?_)
  · obtain ⟨x, rfl, _⟩ := h
    rfl
  · obtain ⟨x, rfl, t0, k⟩ := h
    refine ⟨_, (Cl.pse_cons (ps_set (i := 1) sc_l_works.nd rfl (Or.inl rfl) (pe_lst (pa_cons (Cl.pe_lam (T := Tl) (c := c8) (P := P8) (D := Dw 0) TB rfl hm hu (LamX.lamS_by (dw_scope 0 (by decide))) rfl) pa_nil)))
    (Cl.pse_cons (ps_expr (pe_bm PySem.F.plainAttrs_list PySem.F.slot_list_append PySem.F.type_list_append mt_append (pv 1) (pa_cons (Cl.pe_lam (T := Tl) (c := c8) (P := P8) (D := Dw 1) TB rfl hm hu (LamX.lamS_by (dw_scope 1 (by decide))) rfl) pa_nil)))
    (Cl.pse_cons (ps_expr (pe_bm PySem.F.plainAttrs_list PySem.F.slot_list_append PySem.F.type_list_append mt_append (pv 1) (pa_cons (Cl.pe_lam (T := Tl) (c := c8) (P := P8) (D := Dw 2) TB rfl hm hu (LamX.lamS_by (dw_scope 2 (by decide))) rfl) pa_nil)))
    (Cl.pse_cons (ps_expr (pe_bm PySem.F.plainAttrs_list PySem.F.slot_list_append PySem.F.type_list_append mt_append (pv 1) (pa_cons (Cl.pe_lam (T := Tl) (c := c8) (P := P8) (D := Dw 3) TB rfl hm hu (LamX.lamS_by (dw_scope 3 (by decide))) rfl) pa_nil)))
    (Cl.pse_cons (ps_expr (pe_bm PySem.F.plainAttrs_list PySem.F.slot_list_append PySem.F.type_list_append mt_append (pv 1) (pa_cons (Cl.pe_lam (T := Tl) (c := c8) (P := P8) (D := Dw 4) TB rfl hm hu (LamX.lamS_by (dw_scope 4 (by decide))) rfl) pa_nil)))
    (Cl.pse_cons (ps_expr (pe_bm PySem.F.plainAttrs_list PySem.F.slot_list_append PySem.F.type_list_append mt_append (pv 1) (pa_cons (Cl.pe_lam (T := Tl) (c := c8) (P := P8) (D := Dw 5) TB rfl hm hu (LamX.lamS_by (dw_scope 5 (by decide))) rfl) pa_nil)))
    (Cl.pse_ret (pv 1)))))))), ?_⟩
    refine ⟨t0, fun f0 c0 H1 e1 t1 nf0 hc0 => ⟨(by show 1 ≤ sizeLine; decide), fun r nr => ?_⟩⟩
    have W1 : WI Tl (envOfC "_law_works" (defScope s_l_works) s.heap.objs.size ad.l_works (.ref c8)).cells H (upd (upd H1 f0 (Cl.LamO f0 wQ (Dw 0) (envOfC "_law_works" (defScope s_l_works) s.heap.objs.size ad.l_works (.ref c8)).cells c0)) r (.lst [V.ref f0])) r [f0] := by
      have nr1 : H1 r = none := by
        cases q : H1 r with
        | none => rfl
        | some u =>
          rw [upd_ne (fun z => by rw [z, upd_same] at nr; cases nr), q] at nr
          cases nr
      have fr : f0 ≠ r := fun z => by rw [← z, upd_same] at nr; cases nr
      refine ⟨fun b u e n => ?_, ?_, fun u e => Classical.byContradiction fun n => ?_, upd_same, fun i g e => ?_⟩
      · have h1 := e1 b u e n
        rw [upd_ne (fun z => by rw [z, nr1] at h1; cases h1), upd_ne (fun z => by rw [z, nf0] at h1; cases h1)]
        exact h1
      · refine t1.ext fun b o h1 => ?_
        rw [upd_ne (fun z => by rw [z, nr1] at h1; cases h1), upd_ne (fun z => by rw [z, nf0] at h1; cases h1)]
        exact h1
      · have h1 := e1 r u e fun ps z => n ⟨ps, z⟩
        rw [nr1] at h1
        cases h1
      · match i, e with
        | 0, e =>
          cases e
          refine ⟨c0, by rw [upd_ne fr]; exact upd_same, ?_⟩
          rw [upd_ne (fun z => by rw [z, nr1] at hc0; cases hc0), upd_ne (fun z => by rw [z, nf0] at hc0; cases hc0)]
          exact hc0
        | i + 1, e => simp at e
    refine app_go (k := 1) W1 rfl rfl fun fs2 G2 W2 l2 => ?_
    refine app_go (k := 2) W2 l2 rfl fun fs3 G3 W3 l3 => ?_
    refine app_go (k := 3) W3 l3 rfl fun fs4 G4 W4 l4 => ?_
    refine app_go (k := 4) W4 l4 rfl fun fs5 G5 W5 l5 => ?_
    refine app_go (k := 5) W5 l5 rfl fun fs6 G6 W6 l6 => ?_
    refine ⟨_, rfl, fun G8 TT => ?_⟩
    have W8 : WI Tl (envOfC "_law_works" (defScope s_l_works) s.heap.objs.size ad.l_works (.ref c8)).cells H G8 r fs6 :=
      ⟨fun b u e n => TT.same _ _ (W6.ex b u e n), W6.tb.ext TT.same, W6.nr, TT.same _ _ W6.hr, fun i f e => (W6.at_ i f e).imp fun c' h => ⟨TT.same _ _ h.1, TT.same _ _ h.2⟩⟩
    refine k r fs6 G8 _ _ W8 l6 (TT.reg rfl (fun y hy => ?_) ["_law_box_here"] capt_iff)
    have hy := (capt_iff y).mp hy
    simp only [List.mem_cons, List.not_mem_nil, or_false] at hy
    subst hy
    exact ⟨0, _, rfl, rfl⟩
end
end Nu
namespace Nu
open PySem PySem.Spec PyProof.Rows L2
theorem Drw.ext {K : PySem.W.Frag} {H H' : Hp} {s sc : Addr} {ns : List Int} (d : Drw K H s sc ns) (k : LamX.ExtN H H') : Drw K H' s sc ns := by
  obtain ⟨i, m, r, e, h⟩ := d.at_
  refine ⟨d.sq.elim .inl fun q => .inr ⟨?_, q.2⟩, i, m, r, k _ _ e (fun ps z => by cases z), h⟩
  rcases q.1 with z | ⟨o, z⟩
  · exact .inl (k _ _ z fun ps z => by cases z)
  · exact .inr ⟨o, k _ _ z fun ps z => by cases z⟩
theorem BoxH.ext {H H' : Hp} {v : V} {lw hg : Nat → Int} {n m : Nat} {c : Option Int} (h : BoxH H v lw hg n m c) (k : LamX.ExtN H H') : BoxH H' v lw hg n m c := h.mono fun _ _ e => k _ _ e fun ps z => by cases z
theorem put_same {H H' : Hp} {cs : List Addr} (s : Same (Cl.rmC H cs) H') : Same H (Cl.putC H H' cs) := fun b u e => by
  by_cases c : b ∈ cs
  · rw [Cl.putC_in c]
    exact e
  · rw [Cl.putC_out c]
    exact s b u (by rw [Cl.rmC_out c]; exact e)
theorem reg_same {sc : Scope} {N : List Str} {cells : List (Str × Addr)} {cs : List Addr} {σ : L2.St} {H H' : Hp} (R : Cl.Reg sc N cells cs σ H) (s : Same H H') : Cl.Reg sc N cells cs σ H' :=
  ⟨R.len, R.has, fun i y v c e1 e2 e3 e4 => s _ _ (R.at_ i y v c e1 e2 e3 e4), fun c hc => (R.all c hc).imp fun v e => s _ _ e, R.inj⟩
theorem BoxH.rm {H : Hp} {v : V} {lw hg : Nat → Int} {n m : Nat} {c : Option Int} {cs : List Addr} (h : BoxH H v lw hg n m c) (hc : Cl.AllC H cs) : BoxH (Cl.rmC H cs) v lw hg n m c := h.mono fun b xs e => by
  rw [Cl.rmC_out fun z => ?_]
  · exact e
  · obtain ⟨v, ev⟩ := hc b z
    rw [e] at ev
    unfold Cl.CellO at ev
    cases ev
theorem ne_same {x y : Str} (h : x = y) : (!decide (V.str x = V.str y)) = false := by rw [h, decide_eq_true rfl]; rfl
/-! ### one world alone -/
theorem nodup_flat {α β : Type} {f : α → List β} : ∀ l : List α, l.Nodup → (∀ x ∈ l, (f x).Nodup) → (∀ x ∈ l, ∀ y ∈ l, ∀ z, z ∈ f x → z ∈ f y → x = y) → (l.flatMap f).Nodup
  | [], _, _, _ => List.nodup_nil
  | x :: r, nd, h1, h2 => by
    obtain ⟨nx, nr⟩ := List.nodup_cons.mp nd
    rw [List.flatMap_cons]
    refine List.nodup_append.mpr ⟨h1 x List.mem_cons_self, nodup_flat r nr (fun y hy => h1 y (List.mem_cons_of_mem _ hy)) fun y hy z hz => h2 y (List.mem_cons_of_mem _ hy) z (List.mem_cons_of_mem _ hz), fun a ha b hb e => ?_⟩
    obtain ⟨y, hy, hb'⟩ := List.mem_flatMap.mp hb
    have := h2 x List.mem_cons_self y (List.mem_cons_of_mem _ hy) a ha (by rw [e]; exact hb')
    exact nx (by rw [this]; exact hy)
theorem nodup_mapI {α β : Type} {f : α → β} (inj : ∀ x y, f x = f y → x = y) : ∀ l : List α, l.Nodup → (l.map f).Nodup
  | [], _ => List.nodup_nil
  | x :: r, nd => by
    obtain ⟨nx, nr⟩ := List.nodup_cons.mp nd
    rw [List.map_cons]
    refine List.nodup_cons.mpr ⟨fun h => ?_, nodup_mapI inj r nr⟩
    obtain ⟨y, hy, e⟩ := List.mem_map.mp h
    exact nx (by rw [← inj _ _ e]; exact hy)
theorem nodup_LI {f : Nat → Int} (inj : ∀ i j, f i = f j → i = j) : ∀ n : Nat, (LI f n).Nodup
  | 0 => List.nodup_nil
  | n + 1 => by
    rw [LI_succ]
    refine List.nodup_append.mpr ⟨nodup_LI inj n, List.nodup_cons.mpr ⟨by simp, List.nodup_nil⟩, fun a ha b hb e => ?_⟩
    obtain ⟨i, hi, rfl⟩ := mem_LI.mp ha
    rw [List.mem_singleton.mp hb] at e
    have := inj _ _ e
    omega
theorem nodup_rng (a b : Int) : (rng a b).Nodup := nodup_LI (fun i j e => by
  have e : a + (i : Int) = a + (j : Int) := e
  omega) _
theorem nodup_wAll (lw hg : Nat → Int) : ∀ n : Nat, (wAll lw hg n).Nodup
  | 0 => List.nodup_cons.mpr ⟨by simp, List.nodup_nil⟩
  | n + 1 => by
    refine nodup_flat _ (nodup_wAll lw hg n) (fun p _ => ?_) fun p hp q hq z h1 h2 => ?_
    · unfold ext1
      refine nodup_mapI (fun x y e => ?_) _ (nodup_rng _ _)
      have := List.append_cancel_left e
      injection this
    · unfold ext1 at h1 h2
      obtain ⟨x, _, rfl⟩ := List.mem_map.mp h1
      obtain ⟨y, _, e⟩ := List.mem_map.mp h2
      have l1 := wAll_el hp
      have l2 := wAll_el hq
      exact (List.append_inj e (by omega)).1.symm
theorem one_world {ws : List (List Int)} {lw hg : Nat → Int} {n : Nat} {c : Option Int} (W : IsW ws lw hg n c) (nd : ws.Nodup) (hle : ∀ i, i < n → lw i ≤ hg i) (nb : ¬ badC (sumF lw n) (sumF hg n) c) : LI (tlF lw hg n c) n = LI (thF lw hg n c) n ↔ ws.length = 1 := by
  have ne := W.ne hle nb
  constructor
  · intro e
    have all : ∀ x ∈ ws, x = LI (tlF lw hg n c) n := fun x hx => by
      obtain ⟨f, rfl, hf⟩ := (W x).mp hx
      refine LI_congr fun i hi => ?_
      have h1 := (tight_iff hi hle nb (f i)).mp ⟨f, hf, rfl⟩
      have h2 : tlF lw hg n c i = thF lw hg n c i := by
        have := congrArg (fun l => l[i]?) e
        rw [LI_at _ hi, LI_at _ hi] at this
        exact Option.some.inj this
      omega
    match ws, ne, nd, all with
    | [], ne, _, _ => exact absurd rfl ne
    | [x], _, _, _ => rfl
    | x :: y :: r, _, nd, all =>
      have h1 := all x List.mem_cons_self
      have h2 := all y (List.mem_cons_of_mem _ List.mem_cons_self)
      exact absurd (by rw [h1, ← h2]; exact List.mem_cons_self) (List.nodup_cons.mp nd).1
  · intro e
    match ws, e, W with
    | [x], _, W =>
      refine LI_congr fun i hi => ?_
      have t := tl_le_th hle nb i hi
      obtain ⟨f, hf, e1⟩ := (tight_iff hi hle nb (tlF lw hg n c i)).mpr ⟨Int.le_refl _, t⟩
      obtain ⟨g, hg', e2⟩ := (tight_iff hi hle nb (thF lw hg n c i)).mpr ⟨t, Int.le_refl _⟩
      have h1 := (W _).mpr ⟨f, rfl, hf⟩
      have h2 := (W _).mpr ⟨g, rfl, hg'⟩
      have h3 : LI f n = LI g n := by rw [List.mem_singleton.mp h1, List.mem_singleton.mp h2]
      have := congrArg (fun l => l[i]?) h3
      rw [LI_at _ hi, LI_at _ hi] at this
      rw [← e1, ← e2]
      exact Option.some.inj this
end Nu
namespace Nu
open PySem PySem.Spec PyProof.Rows L2
theorem SmD.up {H : Hp} : ∀ {n : Nat} {x y : V}, SmD H n x y → SmD H (n + 1) x y
  | 0, _, _, h => h.elim
  | n + 1, x, y, h => by
    rcases h with h | ⟨p, q, xs, ys, b, e1, e2, h1, h2, h3, h4, h5⟩
    · exact .inl h
    · exact .inr ⟨p, q, xs, ys, b, e1, e2, h1, h2, h3, h4, fun i u v a c => SmD.up (h5 i u v a c)⟩
section
variable {P : Program} {w : World} {K : PySem.W.Frag} {mg : Str → Option Value} {base : Heap} {ad : Ad} {fd : Fd}
def spLaw (K : PySem.W.Frag) (Tl : List (Addr × Str)) : Sp := fun vs H Q _ => ∃ (a : Addr) (ns : List Int), vs = [.ref a] ∧ SqL K H a (ns.map V.int) ∧ ns.length ≤ 63 ∧ LamX.Tabs Tl H ∧ ∀ H', Q (.bl true) H'
theorem ok_law (T : Txt K mg ad fd) (K3 : ∀ i, i < 3 → Kn3 K ad (three ad i) i) {Tl : List (Addr × Str)} {c8 P8 : Addr}
    (hc8 : fd.l_works.code = .ref c8) (TB8 : LamX.TabB base mg c8 P8) (hm8 : (P8, wQ) ∈ Tl) (hu8 : ∀ p ∈ Tl, p.1 = P8 → p.2 = wQ) : FnOk P w K mg base CX0 9 ad.law fd.law ["_law_script"] (spLaw K Tl) := by
  have G_l_start := ok_l_start (P := P) (w := w) (base := base) T
  have G_l_drawn := ok_l_drawn (P := P) (w := w) (base := base) T
  have G_l_box := ok_l_box (P := P) (w := w) (base := base) T
  have G_l_of := ok_l_of (P := P) (w := w) (base := base) T
  have G_l_odd := ok_l_odd (P := P) (w := w) (base := base) T
  have G_l_tight := ok_l_tight (P := P) (w := w) (base := base) T
  have G_l_works := ok_l_works (P := P) (w := w) (base := base) T hc8 TB8 hm8 hu8
  have G_tight := ok_tight (P := P) (w := w) (base := base) T
  have G_is_settled := ok_is_settled (P := P) (w := w) (base := base) T
  have G_l_same := ok_l_same (P := P) (w := w) (base := base) T 4
  obtain ⟨ocN, odN, kVN, docN, pmN, anN, cdvN, ctN, oslN, eN, lkN, hcgN⟩ := T.F_l_kind.ex
  have bN := T.b_l_kind
  rw [eN] at bN lkN
  refine T.F_law.ok sc_law (fun vs H Q E h => ?_) (fun cdv A0 outer s0 H vs Q E hr h => ?_)
  · obtain ⟨a, ns, rfl, _⟩ := h
    rfl
  · obtain ⟨sa, ns, rfl, S0, hns, TB0, k⟩ := h
    have hu := hu_of hr
    refine ⟨_, (pss_cons (ps_set (i := 1) sc_law.nd rfl (Or.inl rfl) (pe_call G_l_start (hr.mono (by decide)) (by rfl) T.g_l_start T.F_l_start.kp T.b_l_start .nil pass0 (pa_cons (pv 0) pa_nil)))
    (pss_cons (ps_for PassesOwn.never rfl (pi_range1 (by rfl) T.n_range (pa_cons pe_int pa_nil)) (pg_name (i := 2) sc_law.nd rfl (Or.inl rfl))
      (pss_cons (ps_set (i := 3) sc_law.nd rfl (Or.inl rfl) (pe_call G_l_box (hr.mono (by decide)) (by rfl) T.g_l_box T.F_l_box.kp T.b_l_box .nil pass0 (pa_cons (pv 1) pa_nil)))
    (pss_cons (ps_if (pt_cmpR op_eq (pv 2) pe_int (nomark _)) (pss_cons (ps_set (i := 4) sc_law.nd rfl (Or.inl rfl) (pe_ix ix_list (pe_lst (pa_cons pe_non (pa_cons (pe_call G_l_drawn (hr.mono (by decide)) (by rfl) T.g_l_drawn T.F_l_drawn.kp T.b_l_drawn .nil pass0 (pa_cons (pv 1) (pa_cons pe_int pa_nil))) pa_nil))) (pe_call G_l_drawn (hr.mono (by decide)) (by rfl) T.g_l_drawn T.F_l_drawn.kp T.b_l_drawn .nil pass0 (pa_cons (pv 1) (pa_cons pe_int pa_nil))) (fun _ _ => rfl)))
    (pss_one (ps_set (i := 3) sc_law.nd rfl (Or.inl rfl) (pe_tup (pa_cons (pe_tup (pa_cons pe_int (pa_cons pe_int (pa_cons (pe_call G_l_drawn (hr.mono (by decide)) (by rfl) T.g_l_drawn T.F_l_drawn.kp T.b_l_drawn .nil pass0 (pa_cons (pv 1) (pa_cons pe_int pa_nil))) pa_nil)))) (pa_cons (pe_tup (pa_cons pe_int (pa_cons (pe_op op_sub pe_int (pe_call G_l_drawn (hr.mono (by decide)) (by rfl) T.g_l_drawn T.F_l_drawn.kp T.b_l_drawn .nil pass0 (pa_cons (pv 1) (pa_cons pe_int pa_nil)))) (pa_cons pe_int pa_nil)))) (pa_cons (pv 4) pa_nil))))))) pss_nil)
    (pss_cons (ps_set (i := 5) sc_law.nd rfl (Or.inl rfl) (pe_call G_l_of (hr.mono (by decide)) (by rfl) T.g_l_of T.F_l_of.kp T.b_l_of .nil pass0 (pa_cons (pe_ix ix_tup (pv 3) pe_int (fun _ _ => rfl)) (pa_cons (pe_ix ix_tup (pv 3) pe_int (fun _ _ => rfl)) (pa_cons (pe_ix ix_tup (pv 3) pe_int (fun _ _ => rfl)) pa_nil)))))
    (pss_one (ps_if (pt_cmpR (op_eqD hr.units) (pv 5) (pe_lst pa_nil) (nomark _)) (pss_one (ps_if (pt_cmpR (op_neD hr.units) (pe_lc (own := [("_law_work", 6)]) (g := gName 6) (by rfl) sc_law.nd (pi_list (pe_call G_l_works (hr.mono (by decide)) (by rfl) T.g_l_works T.F_l_works.kp T.b_l_works .nil pass0 (pa_cons (pv 3) pa_nil))) (blkOk_by (own := [("_law_work", 6)]) (N := ["_law_script", "_law_state", "_law_turn", "_law_box_here", "_law_total", "_law_every", "_law_work", "_law_odd_here"]) (sc := defScope s_law) (by decide +kernel)) (fun _ _ _ _ _ => pg_name (i := 6) sc_law.nd rfl (Or.inl rfl)) (fun _ _ _ _ _ => (pts_one (pt_cmpR op_ne (Cl.pe_callF (TT := TTkind ad) (q := wQ) (k := 5) (n := 6) (sc := defScope s_l_works) (NF := NW) (Ds := Dw) (tt := tw ad) (by rfl) T.g_l_kind T.F_l_kind.kp lkN hcgN bN sc_l_kind rfl (Or.inl rfl) (kind_gives T K3 rfl rfl) (hr.mono (by decide)) (pv 6) (dw_ok T)) pe_str (nomark _)))) (fun _ _ _ _ _ => (pv 6))) (pe_lst pa_nil) (nomark _)) (pss_one (ps_ret pe_bl)) pss_nil)) (pss_cons (ps_if (pt_not (pt_val (pe_call G_l_same (hr.mono (by decide)) (by rfl) T.g_l_same T.F_l_same.kp T.b_l_same .nil pass0 (pa_cons (pe_call G_tight (hr.mono (by decide)) (by rfl) T.g_tight T.F_tight.kp T.b_tight .nil passL (pa_cons (pv 3) pa_nil)) (pa_cons (pe_op op_catA (pe_call G_l_tight (hr.mono (by decide)) (by rfl) T.g_l_tight T.F_l_tight.kp T.b_l_tight .nil pass0 (pa_cons (pv 5) pa_nil)) (pe_tup (pa_cons (pe_ix ix_tup (pv 3) pe_int (fun _ _ => rfl)) pa_nil))) pa_nil))))) (pss_one (ps_ret pe_bl)) pss_nil)
    (pss_one (ps_if (pt_not (pt_val (pe_call G_l_same (hr.mono (by decide)) (by rfl) T.g_l_same T.F_l_same.kp T.b_l_same .nil pass0 (pa_cons (pe_call G_is_settled (hr.mono (by decide)) (by rfl) T.g_is_settled T.F_is_settled.kp T.b_is_settled .nil passL (pa_cons (pv 3) pa_nil)) (pa_cons (pe_cmpR op_eq (pe_callB call_len_seq (by rfl) T.n_len PySem.boot_len (pa_cons (pv 5) pa_nil)) pe_int (nomark _)) pa_nil))))) (pss_one (ps_ret pe_bl)) pss_nil)))))))))
    (pss_cons (ps_for PassesOwn.never rfl (pi_range1 (by rfl) T.n_range (pa_cons pe_int pa_nil)) (pg_name (i := 2) sc_law.nd rfl (Or.inl rfl))
      (pss_cons (ps_set (i := 7) sc_law.nd rfl (Or.inl rfl) (pe_call G_l_odd (hr.mono (by decide)) (by rfl) T.g_l_odd T.F_l_odd.kp T.b_l_odd .nil pass0 (pa_cons (pv 1) pa_nil)))
    (pss_one (ps_if (pt_cmpR (op_neD hr.units) (pe_lc (own := [("_law_work", 6)]) (g := gName 6) (by rfl) sc_law.nd (pi_list (pe_call G_l_works (hr.mono (by decide)) (by rfl) T.g_l_works T.F_l_works.kp T.b_l_works .nil pass0 (pa_cons (pv 7) pa_nil))) (blkOk_by (own := [("_law_work", 6)]) (N := ["_law_script", "_law_state", "_law_turn", "_law_box_here", "_law_total", "_law_every", "_law_work", "_law_odd_here"]) (sc := defScope s_law) (by decide +kernel)) (fun _ _ _ _ _ => pg_name (i := 6) sc_law.nd rfl (Or.inl rfl)) (fun _ _ _ _ _ => (pts_one (pt_cmpR op_ne (Cl.pe_callF (TT := TTkind ad) (q := wQ) (k := 5) (n := 6) (sc := defScope s_l_works) (NF := NW) (Ds := Dw) (tt := tw ad) (by rfl) T.g_l_kind T.F_l_kind.kp lkN hcgN bN sc_l_kind rfl (Or.inl rfl) (kind_gives T K3 rfl rfl) (hr.mono (by decide)) (pv 6) (dw_ok T)) pe_str (nomark _)))) (fun _ _ _ _ _ => (pv 6))) (pe_lst pa_nil) (nomark _)) (pss_one (ps_ret pe_bl)) pss_nil))))
    (pss_one (ps_ret pe_bl))))), ?_⟩
    refine ⟨_, rfl, sa, ns, rfl, S0, fun s H1 ns0 sm1 D1 => ?_⟩
    have TB1 := TB0.ext sm1
    have tk : ∀ {Ha Hb : Hp}, LamX.Tabs Tl Ha → Drw K Ha s sa ns → Keep [s] Ha Hb → LamX.Tabs Tl Hb := fun {Ha Hb} t d k => tabs_draw t k (let ⟨_, _, _, e, _⟩ := d.at_; ⟨_, e⟩)
    refine gName_go ?_
    dsimp only
    refine seq_go ?_
    refine ⟨8, rfl, by omega, by omega, ?_⟩
    refine for_range (lo := 0) (n := (8 : Int).toNat) (fun i σ H' => ∃ v2 v3 v4 v5 v7 : Option V, σ = [some (.ref sa), some (.ref s), v2, v3, v4, v5, none, v7] ∧ Drw K H' s sa ns ∧ LamX.Tabs Tl H') ⟨none, none, none, none, none, rfl, D1, TB1⟩ ?_ ?_
    · rintro i σ H2 hi ⟨v2, v3, v4, v5, v7, rfl, D2, TB2⟩
      refine gName_go ?_
      refine ⟨_, rfl, s, sa, ns, rfl, D2, fun v lw0 hg0 n0 c0 H3 ib0 oc0 k3 D3 B3 => ?_⟩
      have TB3 := tk TB2 D2 k3
      refine gName_go ?_
      dsimp only
      refine seq_go ?_
      refine ifS_join (fun σ' H' => ∃ (v : V) (v4' : Option V) (lw hg : Nat → Int) (n : Nat) (c : Option Int), σ' = [some (.ref sa), some (.ref s), some (.int (0 + (i : Int))), some v, v4', v5, none, v7] ∧ isB lw hg n n ∧ cOk c ∧ BoxH H' v lw hg n n c ∧ Drw K H' s sa ns ∧ LamX.Tabs Tl H') (fun nx hnx => ?_) ?_
      · refine ⟨_, rfl, rfl, _, rfl, ?_⟩
        by_cases c7 : (0 : Int) + (i : Int) = 7
        · rw [deqI c7]
          refine iteT ?_
          refine ⟨_, rfl, s, sa, ns, 22, rfl, D3, by decide, by decide, fun d1 H4 a4 b4 k4 D4 => ⟨(by show 2 ≤ sizeLine; decide), fun l nl => ?_⟩⟩
          have D5 := D4.new (o := .lst [V.non, V.int d1]) nl
          have TB5 := (tk TB3 D3 k4).ext (same_upd (o := .lst [V.non, V.int d1]) nl)
          refine ⟨_, rfl, s, sa, ns, 2, rfl, D5, by decide, by decide, fun d2 H6 a6 b6 k6 D6 => ?_⟩
          have TB6 := tk TB5 D5 k6
          obtain ⟨c, ec, oc⟩ : ∃ c : Option Int, atI [V.non, V.int d1] d2 = some (cV c) ∧ cOk c := by
            have : d2 = 0 ∨ d2 = 1 := by omega
            rcases this with rfl | rfl
            · exact ⟨none, rfl, cOk_none⟩
            · exact ⟨some d1, rfl, cOk_of (by omega)⟩
          refine ⟨l, _, d2, _, rfl, rfl, SqL.of (k6 _ _ upd_same (D4.ns nl)), ec, ?_⟩
          refine gName_go ?_
          dsimp only
          try refine seq_go ?_
          refine ⟨_, rfl, s, sa, ns, 4, rfl, D6, by decide, by decide, fun x H7 a7 b7 k7 D7 => ⟨(by show 3 ≤ sizeLine; decide), fun t1 nt1 => ?_⟩⟩
          have TB7 := (tk TB6 D6 k7).ext (same_upd (o := .tup [V.int 0, V.int 0, V.int x]) nt1)
          have D8 := D7.new (o := .tup [V.int 0, V.int 0, V.int x]) nt1
          refine ⟨_, rfl, s, sa, ns, 3, rfl, D8, by decide, by decide, fun y H9 a9 b9 k9 D9 => ⟨_, _, rfl, rfl, (by show 3 ≤ sizeLine; decide), fun t2 nt2 => ?_⟩⟩
          have TB9 := (tk TB7 D8 k9).ext (same_upd (o := .tup [V.int 7, V.int (7 - y), V.int 7]) nt2)
          have D10 := D9.new (o := .tup [V.int 7, V.int (7 - y), V.int 7]) nt2
          have ht1 := same_upd (o := .tup [V.int 7, V.int (7 - y), V.int 7]) nt2 _ _ (D8.tups k9 _ _ (upd_same (o := .tup [V.int 0, V.int 0, V.int x])))
          refine ⟨_, rfl, (by show 3 ≤ sizeLine; decide), fun t3 nt3 => ?_⟩
          refine gName_go ?_
          have s3 := same_upd (o := .tup [V.ref t1, V.ref t2, cV c]) nt3
          refine hnx _ _ ⟨.ref t3, some (cV c), lof [0, 0, x], lof [7, 7 - y, 7], 3, c, rfl, ⟨rfl, by decide, by decide, fun j hj => ?_⟩, oc, ⟨t3, t1, t2, rfl, upd_same, s3 _ _ ht1, s3 _ _ upd_same⟩, D10.same s3, TB9.ext s3⟩
          match j, hj with
          | 0, _ => exact ⟨by show (0 : Int) ≤ 0; decide, by show (0 : Int) ≤ 7; decide, by show (7 : Int) ≤ 7; decide⟩
          | 1, _ => exact ⟨by show (0 : Int) ≤ 0; decide, by show (0 : Int) ≤ 7 - y; omega, by show 7 - y ≤ 7; omega⟩
          | 2, _ => exact ⟨a7, by show x ≤ 7; omega, by show (7 : Int) ≤ 7; decide⟩
        · rw [dneI c7]
          refine iteF ?_
          exact hnx _ _ ⟨v, v4, lw0, hg0, n0, c0, rfl, ib0, oc0, B3, D3, TB3⟩
      · clear B3 TB3 D3 k3 ib0 oc0
        rintro σ' H3 ⟨v, v4', lw, hg, n, c, rfl, ib, oc, B3, D3, TB3⟩
        obtain ⟨b, p, q, rfl, hb3, hp3, hq3⟩ := id B3
        have n3 : n ≤ 3 := ib.2.2.1
        have n1 : 1 ≤ n := ib.2.1
        try refine next_go ?_
        try refine seq_go ?_
        refine ⟨_, rfl, b, _, 0, _, rfl, rfl, SqT.of hb3, rfl, _, rfl, b, _, 1, _, rfl, rfl, SqT.of hb3, rfl, _, rfl, b, _, 2, _, rfl, rfl, SqT.of hb3, rfl, ?_⟩
        refine ⟨p, q, lw, hg, n, c, rfl, hp3, hq3, n3, ib.2.2.2, fun r ts H4 s4 nr hr4 hT4 => ?_⟩
        have D4 := D3.same s4
        have TB4 := TB3.ext s4
        have B4 := B3.same s4
        refine gName_go ?_
        refine next_go ?_
        have W := IsW.all (lw := lw) (hg := hg) (n := n) (c := c)
        have nd : ((wAll lw hg n).filter (okC c)).Nodup := (nodup_wAll lw hg n).filter _
        have w512 : ((wAll lw hg n).filter (okC c)).length ≤ 900 := by
          have h1 := List.length_filter_le (okC c) (wAll lw hg n)
          have wl := wAll_len8 (lw := lw) (hg := hg) n fun j hj => by
            have := ib.2.2.2 j hj
            exact ⟨this.1, this.2.2⟩
          have p8 : 8 ^ n ≤ 512 := by
            have : n = 0 ∨ n = 1 ∨ n = 2 ∨ n = 3 := by omega
            rcases this with rfl | rfl | rfl | rfl <;> decide
          omega
        have le0 : ∀ i, i < n → lw i ≤ hg i := fun i hi => (ib.2.2.2 i hi).2.1
        have bok : BOk lw hg n n c := ⟨by omega, by omega, fun i hi => by
          have := ib.2.2.2 i hi
          exact intOkS (by omega) (by omega), fun i hi => by
          have := ib.2.2.2 i hi
          exact intOkS (by omega) (by omega), oc⟩
        generalize (wAll lw hg n).filter (okC c) = ws at hT4 W w512 nd
        refine ⟨_, rfl, Nat.zero_le _, fun e ne => ?_⟩
        have q1 := same_upd (o := .lst ([] : List V)) ne
        refine eqw_nil (q1 _ _ hr4) (hT4.same q1) upd_same ⟨_, rfl, ?_⟩
        have D5 := D4.same q1
        have TB5 := TB4.ext q1
        have B5 := B4.same q1
        have hr5 := q1 _ _ hr4
        have hT5 := hT4.same q1
        generalize upd H4 e (.lst []) = H5 at D5 TB5 B5 hr5 hT5 ⊢
        clear q1 hT4 hr4 B4 TB4 D4
        by_cases bad : badC (sumF lw n) (sumF hg n) c
        · have w0 : ws = [] := by
            cases q : ws with
            | nil => rfl
            | cons x r =>
              obtain ⟨f, _, hf⟩ := (W x).mp (by rw [q]; exact List.mem_cons_self)
              exact absurd bad hf.nb
          rw [show ws.isEmpty = true by rw [w0]; rfl]
          refine iteT ?_
          refine ⟨_, rfl, _, rfl, TB5, fun r2 fs H18 cells cs WI l6 R => ⟨r2, rfl, ⟨_, SqL.of WI.hr⟩, fun D nD => ?_⟩⟩
          have D18 := D5.ext WI.ex
          have B18 := B5.ext WI.ex
          refine lc_list (K := K) (a := r2) (xs := fs.map V.ref) (fun j H' => Same H18 H' ∧ H' D = some (.lst [])) ⟨same_upd nD, upd_same⟩ (fun j H' _ ⟨s2, _⟩ => SqL.of (s2 _ _ WI.hr)) ?_ ?_
          · rintro j y H' hy ⟨s2, hD⟩
            rw [List.getElem?_map] at hy
            obtain ⟨f, ef, rfl⟩ := Option.map_eq_some_iff.mp hy
            have hj : j < 6 := by
              have := (List.getElem?_eq_some_iff.mp ef).1
              omega
            obtain ⟨c', h1, h2⟩ := WI.at_ j f ef
            have R2 := reg_same R s2
            refine ⟨wipe1 _ _ _, ?_⟩
            refine ⟨f, c', j, cells, cs, [some (.ref b), some (.ref r2)], hj, rfl, s2 _ _ h2, s2 _ _ h1, R2, ?_⟩
            refine tw_no ((B18.same s2).rm R2.all) bok (fun _ => bad) (fun z => absurd ib z) (fun _ _ H'' s'' => ⟨1, by decide, rfl, rfl, fun H3 s3 => ?_⟩) j hj
            refine ⟨rfl, _, rfl, ?_⟩
            rw [ne_same (show word3 1 = "NoWorld" from rfl)]
            have s13 := (put_same s'').trans s3
            exact iteF ⟨s2.trans s13, s13 _ _ hD⟩
          rintro H19 ⟨s19, hD⟩
          refine ⟨Nat.zero_le _, fun e ne => ?_⟩
          refine ⟨.list [], .list [], .lst (SqL.of (same_upd ne _ _ hD)) .nil, .lst (SqL.of upd_same) .nil, by decide, by decide, _, rfl, ?_⟩
          refine iteF ?_
          have s20 := s19.trans (same_upd (o := .lst []) ne)
          exact ⟨_, _, _, _, _, rfl, D18.same s20, WI.tb.ext s20⟩
        · have w1 : ws ≠ [] := W.ne le0 bad
          rw [show ws.isEmpty = false by
            cases q : ws with
            | nil => exact absurd q w1
            | cons x l => rfl]
          refine iteF ?_
          obtain ⟨b', p', q', eb, hb5, hp5, hq5⟩ := id B5
          cases eb
          refine ⟨_, rfl, .ref b, lw, hg, n, n, c, rfl, B5, bok, fun z => absurd ib z, fun _ z => absurd z bad, fun _ _ v1 H6 s6 B6 => ?_⟩
          refine ⟨_, rfl, r, ts, ws, n, _, _, rfl, s6 _ _ hr5, hT5.same s6, w1, w512, W.len, n3, W.mm le0 bad, fun b2 p2 q2 H7 s7 hb7 hp7 hq7 => ?_⟩
          have s67 := s6.trans s7
          refine ⟨_, rfl, b, _, 2, _, rfl, rfl, SqT.of (s67 _ _ hb5), rfl, (by show 1 ≤ sizeLine; decide), fun t8 nt8 => ?_⟩
          have s8 : Same H7 (upd H7 t8 (.tup [cV c])) := same_upd nt8
          refine cat_go (s8 _ _ hb7) upd_same (by show 2 + 1 ≤ 1000; decide) fun p9 H9 s9 hp9 => ?_
          have s79 := (s7.trans s8).trans s9
          have B9 : BoxH H9 (.ref p9) (tlF lw hg n c) (thF lw hg n c) n n c := ⟨p9, p2, q2, rfl, hp9, s9 _ _ (s8 _ _ hp7), s9 _ _ (s8 _ _ hq7)⟩
          have sm := smd_box (B6.same s79) B9 (by omega) fun i hi => ⟨rfl, rfl⟩
          refine ⟨v1, .ref p9, rfl, SmD.up sm, fun H10 s10 => ⟨_, rfl, iteF ?_⟩⟩
          have s510 := (s6.trans s79).trans s10
          try refine next_go ?_
          refine ⟨_, rfl, .ref b, lw, hg, n, n, c, rfl, B5.same s510, bok, fun z => absurd ib z, fun _ z => absurd z bad, fun _ _ H11 s11 => ?_⟩
          have s511 := s510.trans s11
          have tl := hT5.len
          refine ⟨_, rfl, r, _, rfl, .inl (SqL.of (s511 _ _ hr5)), rfl, ?_⟩
          refine ⟨.bl _, .bl _, rfl, .inl ⟨?_, rfl⟩, fun H12 s12 => ⟨_, rfl, iteF ?_⟩⟩
          · have ow := one_world W nd le0 bad
            rw [List.length_map, tl]
            by_cases e : ws.length = 1
            · rw [decide_eq_true (ow.mpr e), e]
              rfl
            · rw [decide_eq_false (fun z => e (ow.mp z)), decide_eq_false (fun z => e (by injection z with z; omega))]
          · exact ⟨_, _, _, _, _, rfl, D5.same (s511.trans s12), TB5.ext (s511.trans s12)⟩
    · rintro σ H2 ⟨v2, v3, v4, v5, v7, rfl, D2, TB2⟩
      try dsimp only
      try refine seq_go ?_
      refine ⟨6, rfl, by omega, by omega, ?_⟩
      refine for_range (lo := 0) (n := (6 : Int).toNat) (fun i σ H' => ∃ v2 v3 v4 v5 v7 : Option V, σ = [some (.ref sa), some (.ref s), v2, v3, v4, v5, none, v7] ∧ Drw K H' s sa ns ∧ LamX.Tabs Tl H') ⟨v2, v3, v4, v5, v7, rfl, D2, TB2⟩ ?_ ?_
      · clear D2 TB2
        rintro i σ H2 hi ⟨v2, v3, v4, v5, v7, rfl, D2, TB2⟩
        refine gName_go ?_
        refine ⟨_, rfl, s, sa, ns, rfl, D2, fun t H5 OB k5 D5 => ?_⟩
        have TB5 := tk TB2 D2 k5
        obtain ⟨lw, hg, n, m, c, B5, bok, nob⟩ := OB.box
        refine gName_go ?_
        refine next_go ?_
        refine ⟨_, rfl, _, rfl, TB5, fun r2 fs H18 cells cs WI l6 R => ⟨r2, rfl, ⟨_, SqL.of WI.hr⟩, fun D nD => ?_⟩⟩
        have D18 := D5.ext WI.ex
        have B18 := B5.ext WI.ex
        refine lc_list (K := K) (a := r2) (xs := fs.map V.ref) (fun j H' => Same H18 H' ∧ H' D = some (.lst [])) ⟨same_upd nD, upd_same⟩ (fun j H' _ ⟨s2, _⟩ => SqL.of (s2 _ _ WI.hr)) ?_ ?_
        · rintro j y H' hy ⟨s2, hD⟩
          rw [List.getElem?_map] at hy
          obtain ⟨f, ef, rfl⟩ := Option.map_eq_some_iff.mp hy
          have hj : j < 6 := by
            have := (List.getElem?_eq_some_iff.mp ef).1
            omega
          obtain ⟨c', h1, h2⟩ := WI.at_ j f ef
          have R2 := reg_same R s2
          refine ⟨wipe1 _ _ _, ?_⟩
          refine ⟨f, c', j, cells, cs, [some (.ref t), some (.ref r2)], hj, rfl, s2 _ _ h2, s2 _ _ h1, R2, ?_⟩
          refine tw_no ((B18.same s2).rm R2.all) bok (fun z => absurd z nob) (fun _ H'' s'' => ⟨0, by decide, rfl, rfl, fun H3 s3 => ?_⟩) (fun z => absurd z nob) j hj
          refine ⟨rfl, _, rfl, ?_⟩
          rw [ne_same (show word3 0 = "NoBox" from rfl)]
          have s13 := (put_same s'').trans s3
          exact iteF ⟨s2.trans s13, s13 _ _ hD⟩
        rintro H19 ⟨s19, hD⟩
        refine ⟨Nat.zero_le _, fun e ne => ?_⟩
        refine ⟨.list [], .list [], .lst (SqL.of (same_upd ne _ _ hD)) .nil, .lst (SqL.of upd_same) .nil, by decide, by decide, _, rfl, ?_⟩
        refine iteF ?_
        have s20 := s19.trans (same_upd (o := .lst []) ne)
        exact ⟨_, _, _, _, _, rfl, D18.same s20, WI.tb.ext s20⟩
      · rintro σ H2 ⟨v2, v3, v4, v5, v7, rfl, D2, TB2⟩
        exact k _
end
end Nu
namespace Nu
open PySem PySem.Spec PyProof.Rows L2
theorem lt3 {p : Nat → Prop} (h0 : p 0) (h1 : p 1) (h2 : p 2) : ∀ j, j < 3 → p j := fun j hj => by
  match j, hj with
  | 0, _ => exact h0
  | 1, _ => exact h1
  | 2, _ => exact h2
  | j + 3, hj => omega
theorem all_mk {l : PySem.W.OpenLaw} {w : World} {K : PySem.W.Frag} {h : Heap} {mg : Str → Option Value} {fa : Addr} (X : K.In h) (G : h.Ns mainGlobals mg) (hfa : mg "law" = some (.ref fa)) (own8 : ∀ f8, mg "_law_works" = some (.ref f8) → LamX.OwnTab K f8 h)
    {x_GapError x_NoOffice x_NoDesk x_Stopped x_NoRoom x_NoCount x_NoWord x_Short x_NoNumber x_Twice x_NotThere x_NoWorld x_NoBox : Addr}
    {f_narrowed : Addr} {od_narrowed an_narrowed : Option Addr} {sl_narrowed : Array (Option Value)} {oc_narrowed kV_narrowed dc_narrowed pm_narrowed cd_narrowed ct_narrowed : Value}
    {f_check_total : Addr} {od_check_total an_check_total : Option Addr} {sl_check_total : Array (Option Value)} {oc_check_total kV_check_total dc_check_total pm_check_total cd_check_total ct_check_total : Value}
    {f_tight : Addr} {od_tight an_tight : Option Addr} {sl_tight : Array (Option Value)} {oc_tight kV_tight dc_tight pm_tight cd_tight ct_tight : Value}
    {f_is_settled : Addr} {od_is_settled an_is_settled : Option Addr} {sl_is_settled : Array (Option Value)} {oc_is_settled kV_is_settled dc_is_settled pm_is_settled cd_is_settled ct_is_settled : Value}
    {f_behind : Addr} {od_behind an_behind : Option Addr} {sl_behind : Array (Option Value)} {oc_behind kV_behind dc_behind pm_behind cd_behind ct_behind : Value}
    {f_looks_in : Addr} {od_looks_in an_looks_in : Option Addr} {sl_looks_in : Array (Option Value)} {oc_looks_in kV_looks_in dc_looks_in pm_looks_in cd_looks_in ct_looks_in : Value}
    {f_parted : Addr} {od_parted an_parted : Option Addr} {sl_parted : Array (Option Value)} {oc_parted kV_parted dc_parted pm_parted cd_parted ct_parted : Value}
    {f_tightened : Addr} {od_tightened an_tightened : Option Addr} {sl_tightened : Array (Option Value)} {oc_tightened kV_tightened dc_tightened pm_tightened cd_tightened ct_tightened : Value}
    {f_check_box : Addr} {od_check_box an_check_box : Option Addr} {sl_check_box : Array (Option Value)} {oc_check_box kV_check_box dc_check_box pm_check_box cd_check_box ct_check_box : Value}
    {f_least : Addr} {od_least an_least : Option Addr} {sl_least : Array (Option Value)} {oc_least kV_least dc_least pm_least cd_least ct_least : Value}
    {f_paper : Addr} {od_paper an_paper : Option Addr} {sl_paper : Array (Option Value)} {oc_paper kV_paper dc_paper pm_paper cd_paper ct_paper : Value}
    {f_shows : Addr} {od_shows an_shows : Option Addr} {sl_shows : Array (Option Value)} {oc_shows kV_shows dc_shows pm_shows cd_shows ct_shows : Value}
    {f_l_start : Addr} {od_l_start an_l_start : Option Addr} {sl_l_start : Array (Option Value)} {oc_l_start kV_l_start dc_l_start pm_l_start cd_l_start ct_l_start : Value}
    {f_l_drawn : Addr} {od_l_drawn an_l_drawn : Option Addr} {sl_l_drawn : Array (Option Value)} {oc_l_drawn kV_l_drawn dc_l_drawn pm_l_drawn cd_l_drawn ct_l_drawn : Value}
    {f_l_same : Addr} {od_l_same an_l_same : Option Addr} {sl_l_same : Array (Option Value)} {oc_l_same kV_l_same dc_l_same pm_l_same cd_l_same ct_l_same : Value}
    {f_l_box : Addr} {od_l_box an_l_box : Option Addr} {sl_l_box : Array (Option Value)} {oc_l_box kV_l_box dc_l_box pm_l_box cd_l_box ct_l_box : Value}
    {f_l_of : Addr} {od_l_of an_l_of : Option Addr} {sl_l_of : Array (Option Value)} {oc_l_of kV_l_of dc_l_of pm_l_of cd_l_of ct_l_of : Value}
    {f_l_longer : Addr} {od_l_longer an_l_longer : Option Addr} {sl_l_longer : Array (Option Value)} {oc_l_longer kV_l_longer dc_l_longer pm_l_longer cd_l_longer ct_l_longer : Value}
    {f_l_tight : Addr} {od_l_tight an_l_tight : Option Addr} {sl_l_tight : Array (Option Value)} {oc_l_tight kV_l_tight dc_l_tight pm_l_tight cd_l_tight ct_l_tight : Value}
    {f_l_kind : Addr} {od_l_kind an_l_kind : Option Addr} {sl_l_kind : Array (Option Value)} {oc_l_kind kV_l_kind dc_l_kind pm_l_kind cd_l_kind ct_l_kind : Value}
    {f_l_odd : Addr} {od_l_odd an_l_odd : Option Addr} {sl_l_odd : Array (Option Value)} {oc_l_odd kV_l_odd dc_l_odd pm_l_odd cd_l_odd ct_l_odd : Value}
    {f_l_works : Addr} {od_l_works an_l_works : Option Addr} {sl_l_works : Array (Option Value)} {oc_l_works kV_l_works dc_l_works pm_l_works cd_l_works ct_l_works : Value}
    {f_law : Addr} {od_law an_law : Option Addr} {sl_law : Array (Option Value)} {oc_law kV_law dc_law pm_law cd_law ct_law : Value}
    {t_MOST_PLACES : _}
    {t_GREATEST_HIGH : _}
    {c8 P8 : Addr} {oc8 : Value} {od8 : Option Addr} {vs8 : Array Value} {sl8 : Array (Option Value)}
    (hn_len : PySem.W.nsIn K mainGlobals "len" = some none)
    (hn_range : PySem.W.nsIn K mainGlobals "range" = some none)
    (hn_tuple : PySem.W.nsIn K mainGlobals "tuple" = some none)
    (hn_list : PySem.W.nsIn K mainGlobals "list" = some none)
    (hn_isinstance : PySem.W.nsIn K mainGlobals "isinstance" = some none)
    (hn_int : PySem.W.nsIn K mainGlobals "int" = some none)
    (hn_str : PySem.W.nsIn K mainGlobals "str" = some none)
    (hn_bool : PySem.W.nsIn K mainGlobals "bool" = some none)
    (hn_zip : PySem.W.nsIn K mainGlobals "zip" = some none)
    (hn_min : PySem.W.nsIn K mainGlobals "min" = some none)
    (hn_max : PySem.W.nsIn K mainGlobals "max" = some none)
    (hn_sum : PySem.W.nsIn K mainGlobals "sum" = some none)
    (hn_ValueError : PySem.W.nsIn K mainGlobals "ValueError" = some none)
    (hc_MOST_PLACES : PySem.W.nsIn K mainGlobals "MOST_PLACES" = some (some (.int 3 t_MOST_PLACES)))
    (hc_GREATEST_HIGH : PySem.W.nsIn K mainGlobals "GREATEST_HIGH" = some (some (.int 7 t_GREATEST_HIGH)))
    (ha_narrowed : PySem.W.nsIn K mainGlobals "narrowed" = some (some (.ref f_narrowed)))
    (hl_narrowed : K.lookup f_narrowed = some ⟨oc_narrowed, od_narrowed, .func (PySem.W.fnOf "narrowed" "narrowed" (defArgs s_narrowed) (defBody s_narrowed) (defScope s_narrowed) .none kV_narrowed dc_narrowed pm_narrowed an_narrowed cd_narrowed ct_narrowed), sl_narrowed⟩)
    (hd_narrowed : PySem.W.codeIn K cd_narrowed "narrowed" = true)
    (hk_narrowed : PySem.W.keepIn K (.ref f_narrowed) = true)
    (ha_check_total : PySem.W.nsIn K mainGlobals "_check_total" = some (some (.ref f_check_total)))
    (hl_check_total : K.lookup f_check_total = some ⟨oc_check_total, od_check_total, .func (PySem.W.fnOf "_check_total" "_check_total" (defArgs s_check_total) (defBody s_check_total) (defScope s_check_total) .none kV_check_total dc_check_total pm_check_total an_check_total cd_check_total ct_check_total), sl_check_total⟩)
    (hd_check_total : PySem.W.codeIn K cd_check_total "_check_total" = true)
    (hk_check_total : PySem.W.keepIn K (.ref f_check_total) = true)
    (ha_tight : PySem.W.nsIn K mainGlobals "tight" = some (some (.ref f_tight)))
    (hl_tight : K.lookup f_tight = some ⟨oc_tight, od_tight, .func (PySem.W.fnOf "tight" "tight" (defArgs s_tight) (defBody s_tight) (defScope s_tight) .none kV_tight dc_tight pm_tight an_tight cd_tight ct_tight), sl_tight⟩)
    (hd_tight : PySem.W.codeIn K cd_tight "tight" = true)
    (hk_tight : PySem.W.keepIn K (.ref f_tight) = true)
    (ha_is_settled : PySem.W.nsIn K mainGlobals "is_settled" = some (some (.ref f_is_settled)))
    (hl_is_settled : K.lookup f_is_settled = some ⟨oc_is_settled, od_is_settled, .func (PySem.W.fnOf "is_settled" "is_settled" (defArgs s_is_settled) (defBody s_is_settled) (defScope s_is_settled) .none kV_is_settled dc_is_settled pm_is_settled an_is_settled cd_is_settled ct_is_settled), sl_is_settled⟩)
    (hd_is_settled : PySem.W.codeIn K cd_is_settled "is_settled" = true)
    (hk_is_settled : PySem.W.keepIn K (.ref f_is_settled) = true)
    (ha_behind : PySem.W.nsIn K mainGlobals "behind" = some (some (.ref f_behind)))
    (hl_behind : K.lookup f_behind = some ⟨oc_behind, od_behind, .func (PySem.W.fnOf "behind" "behind" (defArgs s_behind) (defBody s_behind) (defScope s_behind) .none kV_behind dc_behind pm_behind an_behind cd_behind ct_behind), sl_behind⟩)
    (hd_behind : PySem.W.codeIn K cd_behind "behind" = true)
    (hk_behind : PySem.W.keepIn K (.ref f_behind) = true)
    (ha_looks_in : PySem.W.nsIn K mainGlobals "looks_in" = some (some (.ref f_looks_in)))
    (hl_looks_in : K.lookup f_looks_in = some ⟨oc_looks_in, od_looks_in, .func (PySem.W.fnOf "looks_in" "looks_in" (defArgs s_looks_in) (defBody s_looks_in) (defScope s_looks_in) .none kV_looks_in dc_looks_in pm_looks_in an_looks_in cd_looks_in ct_looks_in), sl_looks_in⟩)
    (hd_looks_in : PySem.W.codeIn K cd_looks_in "looks_in" = true)
    (hk_looks_in : PySem.W.keepIn K (.ref f_looks_in) = true)
    (ha_parted : PySem.W.nsIn K mainGlobals "parted" = some (some (.ref f_parted)))
    (hl_parted : K.lookup f_parted = some ⟨oc_parted, od_parted, .func (PySem.W.fnOf "parted" "parted" (defArgs s_parted) (defBody s_parted) (defScope s_parted) .none kV_parted dc_parted pm_parted an_parted cd_parted ct_parted), sl_parted⟩)
    (hd_parted : PySem.W.codeIn K cd_parted "parted" = true)
    (hk_parted : PySem.W.keepIn K (.ref f_parted) = true)
    (ha_tightened : PySem.W.nsIn K mainGlobals "_tightened" = some (some (.ref f_tightened)))
    (hl_tightened : K.lookup f_tightened = some ⟨oc_tightened, od_tightened, .func (PySem.W.fnOf "_tightened" "_tightened" (defArgs s_tightened) (defBody s_tightened) (defScope s_tightened) .none kV_tightened dc_tightened pm_tightened an_tightened cd_tightened ct_tightened), sl_tightened⟩)
    (hd_tightened : PySem.W.codeIn K cd_tightened "_tightened" = true)
    (hk_tightened : PySem.W.keepIn K (.ref f_tightened) = true)
    (ha_check_box : PySem.W.nsIn K mainGlobals "_check_box" = some (some (.ref f_check_box)))
    (hl_check_box : K.lookup f_check_box = some ⟨oc_check_box, od_check_box, .func (PySem.W.fnOf "_check_box" "_check_box" (defArgs s_check_box) (defBody s_check_box) (defScope s_check_box) .none kV_check_box dc_check_box pm_check_box an_check_box cd_check_box ct_check_box), sl_check_box⟩)
    (hd_check_box : PySem.W.codeIn K cd_check_box "_check_box" = true)
    (hk_check_box : PySem.W.keepIn K (.ref f_check_box) = true)
    (ha_least : PySem.W.nsIn K mainGlobals "least" = some (some (.ref f_least)))
    (hl_least : K.lookup f_least = some ⟨oc_least, od_least, .func (PySem.W.fnOf "least" "least" (defArgs s_least) (defBody s_least) (defScope s_least) .none kV_least dc_least pm_least an_least cd_least ct_least), sl_least⟩)
    (hd_least : PySem.W.codeIn K cd_least "least" = true)
    (hk_least : PySem.W.keepIn K (.ref f_least) = true)
    (ha_paper : PySem.W.nsIn K mainGlobals "paper" = some (some (.ref f_paper)))
    (hl_paper : K.lookup f_paper = some ⟨oc_paper, od_paper, .func (PySem.W.fnOf "paper" "paper" (defArgs s_paper) (defBody s_paper) (defScope s_paper) .none kV_paper dc_paper pm_paper an_paper cd_paper ct_paper), sl_paper⟩)
    (hd_paper : PySem.W.codeIn K cd_paper "paper" = true)
    (hk_paper : PySem.W.keepIn K (.ref f_paper) = true)
    (ha_shows : PySem.W.nsIn K mainGlobals "shows" = some (some (.ref f_shows)))
    (hl_shows : K.lookup f_shows = some ⟨oc_shows, od_shows, .func (PySem.W.fnOf "shows" "shows" (defArgs s_shows) (defBody s_shows) (defScope s_shows) .none kV_shows dc_shows pm_shows an_shows cd_shows ct_shows), sl_shows⟩)
    (hd_shows : PySem.W.codeIn K cd_shows "shows" = true)
    (hk_shows : PySem.W.keepIn K (.ref f_shows) = true)
    (ha_l_start : PySem.W.nsIn K mainGlobals "_law_start" = some (some (.ref f_l_start)))
    (hl_l_start : K.lookup f_l_start = some ⟨oc_l_start, od_l_start, .func (PySem.W.fnOf "_law_start" "_law_start" (defArgs s_l_start) (defBody s_l_start) (defScope s_l_start) .none kV_l_start dc_l_start pm_l_start an_l_start cd_l_start ct_l_start), sl_l_start⟩)
    (hd_l_start : PySem.W.codeIn K cd_l_start "_law_start" = true)
    (hk_l_start : PySem.W.keepIn K (.ref f_l_start) = true)
    (ha_l_drawn : PySem.W.nsIn K mainGlobals "_law_drawn" = some (some (.ref f_l_drawn)))
    (hl_l_drawn : K.lookup f_l_drawn = some ⟨oc_l_drawn, od_l_drawn, .func (PySem.W.fnOf "_law_drawn" "_law_drawn" (defArgs s_l_drawn) (defBody s_l_drawn) (defScope s_l_drawn) .none kV_l_drawn dc_l_drawn pm_l_drawn an_l_drawn cd_l_drawn ct_l_drawn), sl_l_drawn⟩)
    (hd_l_drawn : PySem.W.codeIn K cd_l_drawn "_law_drawn" = true)
    (hk_l_drawn : PySem.W.keepIn K (.ref f_l_drawn) = true)
    (ha_l_same : PySem.W.nsIn K mainGlobals "_law_same" = some (some (.ref f_l_same)))
    (hl_l_same : K.lookup f_l_same = some ⟨oc_l_same, od_l_same, .func (PySem.W.fnOf "_law_same" "_law_same" (defArgs s_l_same) (defBody s_l_same) (defScope s_l_same) .none kV_l_same dc_l_same pm_l_same an_l_same cd_l_same ct_l_same), sl_l_same⟩)
    (hd_l_same : PySem.W.codeIn K cd_l_same "_law_same" = true)
    (hk_l_same : PySem.W.keepIn K (.ref f_l_same) = true)
    (ha_l_box : PySem.W.nsIn K mainGlobals "_law_box" = some (some (.ref f_l_box)))
    (hl_l_box : K.lookup f_l_box = some ⟨oc_l_box, od_l_box, .func (PySem.W.fnOf "_law_box" "_law_box" (defArgs s_l_box) (defBody s_l_box) (defScope s_l_box) .none kV_l_box dc_l_box pm_l_box an_l_box cd_l_box ct_l_box), sl_l_box⟩)
    (hd_l_box : PySem.W.codeIn K cd_l_box "_law_box" = true)
    (hk_l_box : PySem.W.keepIn K (.ref f_l_box) = true)
    (ha_l_of : PySem.W.nsIn K mainGlobals "_law_of" = some (some (.ref f_l_of)))
    (hl_l_of : K.lookup f_l_of = some ⟨oc_l_of, od_l_of, .func (PySem.W.fnOf "_law_of" "_law_of" (defArgs s_l_of) (defBody s_l_of) (defScope s_l_of) .none kV_l_of dc_l_of pm_l_of an_l_of cd_l_of ct_l_of), sl_l_of⟩)
    (hd_l_of : PySem.W.codeIn K cd_l_of "_law_of" = true)
    (hk_l_of : PySem.W.keepIn K (.ref f_l_of) = true)
    (ha_l_longer : PySem.W.nsIn K mainGlobals "_law_longer" = some (some (.ref f_l_longer)))
    (hl_l_longer : K.lookup f_l_longer = some ⟨oc_l_longer, od_l_longer, .func (PySem.W.fnOf "_law_longer" "_law_longer" (defArgs s_l_longer) (defBody s_l_longer) (defScope s_l_longer) .none kV_l_longer dc_l_longer pm_l_longer an_l_longer cd_l_longer ct_l_longer), sl_l_longer⟩)
    (hd_l_longer : PySem.W.codeIn K cd_l_longer "_law_longer" = true)
    (hk_l_longer : PySem.W.keepIn K (.ref f_l_longer) = true)
    (ha_l_tight : PySem.W.nsIn K mainGlobals "_law_tight" = some (some (.ref f_l_tight)))
    (hl_l_tight : K.lookup f_l_tight = some ⟨oc_l_tight, od_l_tight, .func (PySem.W.fnOf "_law_tight" "_law_tight" (defArgs s_l_tight) (defBody s_l_tight) (defScope s_l_tight) .none kV_l_tight dc_l_tight pm_l_tight an_l_tight cd_l_tight ct_l_tight), sl_l_tight⟩)
    (hd_l_tight : PySem.W.codeIn K cd_l_tight "_law_tight" = true)
    (hk_l_tight : PySem.W.keepIn K (.ref f_l_tight) = true)
    (ha_l_kind : PySem.W.nsIn K mainGlobals "_law_kind" = some (some (.ref f_l_kind)))
    (hl_l_kind : K.lookup f_l_kind = some ⟨oc_l_kind, od_l_kind, .func (PySem.W.fnOf "_law_kind" "_law_kind" (defArgs s_l_kind) (defBody s_l_kind) (defScope s_l_kind) .none kV_l_kind dc_l_kind pm_l_kind an_l_kind cd_l_kind ct_l_kind), sl_l_kind⟩)
    (hd_l_kind : PySem.W.codeIn K cd_l_kind "_law_kind" = true)
    (hk_l_kind : PySem.W.keepIn K (.ref f_l_kind) = true)
    (ha_l_odd : PySem.W.nsIn K mainGlobals "_law_odd" = some (some (.ref f_l_odd)))
    (hl_l_odd : K.lookup f_l_odd = some ⟨oc_l_odd, od_l_odd, .func (PySem.W.fnOf "_law_odd" "_law_odd" (defArgs s_l_odd) (defBody s_l_odd) (defScope s_l_odd) .none kV_l_odd dc_l_odd pm_l_odd an_l_odd cd_l_odd ct_l_odd), sl_l_odd⟩)
    (hd_l_odd : PySem.W.codeIn K cd_l_odd "_law_odd" = true)
    (hk_l_odd : PySem.W.keepIn K (.ref f_l_odd) = true)
    (ha_l_works : PySem.W.nsIn K mainGlobals "_law_works" = some (some (.ref f_l_works)))
    (hl_l_works : K.lookup f_l_works = some ⟨oc_l_works, od_l_works, .func (PySem.W.fnOf "_law_works" "_law_works" (defArgs s_l_works) (defBody s_l_works) (defScope s_l_works) .none kV_l_works dc_l_works pm_l_works an_l_works cd_l_works ct_l_works), sl_l_works⟩)
    (hd_l_works : PySem.W.codeIn K cd_l_works "_law_works" = true)
    (hk_l_works : PySem.W.keepIn K (.ref f_l_works) = true)
    (ha_law : PySem.W.nsIn K mainGlobals "law" = some (some (.ref f_law)))
    (hl_law : K.lookup f_law = some ⟨oc_law, od_law, .func (PySem.W.fnOf "law" "law" (defArgs s_law) (defBody s_law) (defScope s_law) .none kV_law dc_law pm_law an_law cd_law ct_law), sl_law⟩)
    (hd_law : PySem.W.codeIn K cd_law "law" = true)
    (hk_law : PySem.W.keepIn K (.ref f_law) = true)
    (xg_GapError : PySem.W.nsIn K mainGlobals "GapError" = some (some (.ref x_GapError)))
    (xx_GapError : PySem.W.excIn K x_GapError [.type "ValueError", .type "Exception", .type "BaseException", .type "object"] "ValueError.__new__" = true)
    (xk_GapError : PySem.W.keepIn K (.ref x_GapError) = true)
    (xb_GapError : PySem.W.subIn K (.ref x_GapError) (.type "BaseException") = some true)
    (xt_GapError : PySem.W.typeIn K (.ref x_GapError) = some (.type "type"))
    (xg_NoOffice : PySem.W.nsIn K mainGlobals "NoOffice" = some (some (.ref x_NoOffice)))
    (xx_NoOffice : PySem.W.excIn K x_NoOffice [.type "ValueError", .type "Exception", .type "BaseException", .type "object"] "ValueError.__new__" = true)
    (xk_NoOffice : PySem.W.keepIn K (.ref x_NoOffice) = true)
    (xb_NoOffice : PySem.W.subIn K (.ref x_NoOffice) (.type "BaseException") = some true)
    (xt_NoOffice : PySem.W.typeIn K (.ref x_NoOffice) = some (.type "type"))
    (xg_NoDesk : PySem.W.nsIn K mainGlobals "NoDesk" = some (some (.ref x_NoDesk)))
    (xx_NoDesk : PySem.W.excIn K x_NoDesk [.type "ValueError", .type "Exception", .type "BaseException", .type "object"] "ValueError.__new__" = true)
    (xk_NoDesk : PySem.W.keepIn K (.ref x_NoDesk) = true)
    (xb_NoDesk : PySem.W.subIn K (.ref x_NoDesk) (.type "BaseException") = some true)
    (xt_NoDesk : PySem.W.typeIn K (.ref x_NoDesk) = some (.type "type"))
    (xg_Stopped : PySem.W.nsIn K mainGlobals "Stopped" = some (some (.ref x_Stopped)))
    (xx_Stopped : PySem.W.excIn K x_Stopped [.type "ValueError", .type "Exception", .type "BaseException", .type "object"] "ValueError.__new__" = true)
    (xk_Stopped : PySem.W.keepIn K (.ref x_Stopped) = true)
    (xb_Stopped : PySem.W.subIn K (.ref x_Stopped) (.type "BaseException") = some true)
    (xt_Stopped : PySem.W.typeIn K (.ref x_Stopped) = some (.type "type"))
    (xg_NoRoom : PySem.W.nsIn K mainGlobals "NoRoom" = some (some (.ref x_NoRoom)))
    (xx_NoRoom : PySem.W.excIn K x_NoRoom [.type "ValueError", .type "Exception", .type "BaseException", .type "object"] "ValueError.__new__" = true)
    (xk_NoRoom : PySem.W.keepIn K (.ref x_NoRoom) = true)
    (xb_NoRoom : PySem.W.subIn K (.ref x_NoRoom) (.type "BaseException") = some true)
    (xt_NoRoom : PySem.W.typeIn K (.ref x_NoRoom) = some (.type "type"))
    (xg_NoCount : PySem.W.nsIn K mainGlobals "NoCount" = some (some (.ref x_NoCount)))
    (xx_NoCount : PySem.W.excIn K x_NoCount [.type "ValueError", .type "Exception", .type "BaseException", .type "object"] "ValueError.__new__" = true)
    (xk_NoCount : PySem.W.keepIn K (.ref x_NoCount) = true)
    (xb_NoCount : PySem.W.subIn K (.ref x_NoCount) (.type "BaseException") = some true)
    (xt_NoCount : PySem.W.typeIn K (.ref x_NoCount) = some (.type "type"))
    (xg_NoWord : PySem.W.nsIn K mainGlobals "NoWord" = some (some (.ref x_NoWord)))
    (xx_NoWord : PySem.W.excIn K x_NoWord [.type "ValueError", .type "Exception", .type "BaseException", .type "object"] "ValueError.__new__" = true)
    (xk_NoWord : PySem.W.keepIn K (.ref x_NoWord) = true)
    (xb_NoWord : PySem.W.subIn K (.ref x_NoWord) (.type "BaseException") = some true)
    (xt_NoWord : PySem.W.typeIn K (.ref x_NoWord) = some (.type "type"))
    (xg_Short : PySem.W.nsIn K mainGlobals "Short" = some (some (.ref x_Short)))
    (xx_Short : PySem.W.excIn K x_Short [.type "ValueError", .type "Exception", .type "BaseException", .type "object"] "ValueError.__new__" = true)
    (xk_Short : PySem.W.keepIn K (.ref x_Short) = true)
    (xb_Short : PySem.W.subIn K (.ref x_Short) (.type "BaseException") = some true)
    (xt_Short : PySem.W.typeIn K (.ref x_Short) = some (.type "type"))
    (xg_NoNumber : PySem.W.nsIn K mainGlobals "NoNumber" = some (some (.ref x_NoNumber)))
    (xx_NoNumber : PySem.W.excIn K x_NoNumber [.type "ValueError", .type "Exception", .type "BaseException", .type "object"] "ValueError.__new__" = true)
    (xk_NoNumber : PySem.W.keepIn K (.ref x_NoNumber) = true)
    (xb_NoNumber : PySem.W.subIn K (.ref x_NoNumber) (.type "BaseException") = some true)
    (xt_NoNumber : PySem.W.typeIn K (.ref x_NoNumber) = some (.type "type"))
    (xg_Twice : PySem.W.nsIn K mainGlobals "Twice" = some (some (.ref x_Twice)))
    (xx_Twice : PySem.W.excIn K x_Twice [.type "ValueError", .type "Exception", .type "BaseException", .type "object"] "ValueError.__new__" = true)
    (xk_Twice : PySem.W.keepIn K (.ref x_Twice) = true)
    (xb_Twice : PySem.W.subIn K (.ref x_Twice) (.type "BaseException") = some true)
    (xt_Twice : PySem.W.typeIn K (.ref x_Twice) = some (.type "type"))
    (xg_NotThere : PySem.W.nsIn K mainGlobals "NotThere" = some (some (.ref x_NotThere)))
    (xx_NotThere : PySem.W.excIn K x_NotThere [.type "ValueError", .type "Exception", .type "BaseException", .type "object"] "ValueError.__new__" = true)
    (xk_NotThere : PySem.W.keepIn K (.ref x_NotThere) = true)
    (xb_NotThere : PySem.W.subIn K (.ref x_NotThere) (.type "BaseException") = some true)
    (xt_NotThere : PySem.W.typeIn K (.ref x_NotThere) = some (.type "type"))
    (xg_NoWorld : PySem.W.nsIn K mainGlobals "NoWorld" = some (some (.ref x_NoWorld)))
    (xx_NoWorld : PySem.W.excIn K x_NoWorld [.type "ValueError", .type "Exception", .type "BaseException", .type "object"] "ValueError.__new__" = true)
    (xk_NoWorld : PySem.W.keepIn K (.ref x_NoWorld) = true)
    (xb_NoWorld : PySem.W.subIn K (.ref x_NoWorld) (.type "BaseException") = some true)
    (xt_NoWorld : PySem.W.typeIn K (.ref x_NoWorld) = some (.type "type"))
    (xg_NoBox : PySem.W.nsIn K mainGlobals "NoBox" = some (some (.ref x_NoBox)))
    (xx_NoBox : PySem.W.excIn K x_NoBox [.type "ValueError", .type "Exception", .type "BaseException", .type "object"] "ValueError.__new__" = true)
    (xk_NoBox : PySem.W.keepIn K (.ref x_NoBox) = true)
    (xb_NoBox : PySem.W.subIn K (.ref x_NoBox) (.type "BaseException") = some true)
    (xt_NoBox : PySem.W.typeIn K (.ref x_NoBox) = some (.type "type"))
    (ecn : PySem.W.specialIn K (.builtin "object.__class__") "__get__" = some (some (.builtin "getset_descriptor.__get__")))
    (ect : PySem.W.takesIn K (.builtin "object.__class__") = some true)
    (ehg_NoBox : PySem.W.findIn K (.ref x_NoBox) "__getattribute__" = some (some (.builtin "BaseException.__getattribute__")))
    (ehk_NoBox : PySem.W.findIn K (.ref x_NoBox) "__getattr__" = some none)
    (ehd_NoBox : PySem.W.hasDictIn K x_NoBox = true)
    (eha_NoBox : PySem.W.findIn K (.ref x_NoBox) "__class__" = some (some (.builtin "object.__class__")))
    (ehm_NoBox : PySem.W.mroIn K x_NoBox (.type "object") = some true)
    (e0_NoBox : PySem.W.kitOne K (.ref x_NoBox) (.ref x_NoBox) = some true)
    (e1_NoBox : PySem.W.kitOne K (.ref x_NoBox) (.ref x_NoWorld) = some false)
    (e2_NoBox : PySem.W.kitOne K (.ref x_NoBox) (.ref x_NotThere) = some false)
    (eo_NoBox : PySem.W.kitAny K (.ref x_NoBox) [.ref x_NoCount, .ref x_NoDesk, .ref x_NoNumber, .ref x_NoOffice, .ref x_NoRoom, .ref x_NoWord, .ref x_Short, .ref x_Stopped, .ref x_Twice] = some false)
    (ev_NoBox : PySem.W.kitOne K (.ref x_NoBox) (.type "ValueError") = some true)
    (eg_NoBox : PySem.W.exmOne K (.ref x_NoBox) (.ref x_GapError) = some true)
    (ehg_NoWorld : PySem.W.findIn K (.ref x_NoWorld) "__getattribute__" = some (some (.builtin "BaseException.__getattribute__")))
    (ehk_NoWorld : PySem.W.findIn K (.ref x_NoWorld) "__getattr__" = some none)
    (ehd_NoWorld : PySem.W.hasDictIn K x_NoWorld = true)
    (eha_NoWorld : PySem.W.findIn K (.ref x_NoWorld) "__class__" = some (some (.builtin "object.__class__")))
    (ehm_NoWorld : PySem.W.mroIn K x_NoWorld (.type "object") = some true)
    (e0_NoWorld : PySem.W.kitOne K (.ref x_NoWorld) (.ref x_NoBox) = some false)
    (e1_NoWorld : PySem.W.kitOne K (.ref x_NoWorld) (.ref x_NoWorld) = some true)
    (e2_NoWorld : PySem.W.kitOne K (.ref x_NoWorld) (.ref x_NotThere) = some false)
    (eo_NoWorld : PySem.W.kitAny K (.ref x_NoWorld) [.ref x_NoCount, .ref x_NoDesk, .ref x_NoNumber, .ref x_NoOffice, .ref x_NoRoom, .ref x_NoWord, .ref x_Short, .ref x_Stopped, .ref x_Twice] = some false)
    (ev_NoWorld : PySem.W.kitOne K (.ref x_NoWorld) (.type "ValueError") = some true)
    (eg_NoWorld : PySem.W.exmOne K (.ref x_NoWorld) (.ref x_GapError) = some true)
    (ehg_NotThere : PySem.W.findIn K (.ref x_NotThere) "__getattribute__" = some (some (.builtin "BaseException.__getattribute__")))
    (ehk_NotThere : PySem.W.findIn K (.ref x_NotThere) "__getattr__" = some none)
    (ehd_NotThere : PySem.W.hasDictIn K x_NotThere = true)
    (eha_NotThere : PySem.W.findIn K (.ref x_NotThere) "__class__" = some (some (.builtin "object.__class__")))
    (ehm_NotThere : PySem.W.mroIn K x_NotThere (.type "object") = some true)
    (e0_NotThere : PySem.W.kitOne K (.ref x_NotThere) (.ref x_NoBox) = some false)
    (e1_NotThere : PySem.W.kitOne K (.ref x_NotThere) (.ref x_NoWorld) = some false)
    (e2_NotThere : PySem.W.kitOne K (.ref x_NotThere) (.ref x_NotThere) = some true)
    (eo_NotThere : PySem.W.kitAny K (.ref x_NotThere) [.ref x_NoCount, .ref x_NoDesk, .ref x_NoNumber, .ref x_NoOffice, .ref x_NoRoom, .ref x_NoWord, .ref x_Short, .ref x_Stopped, .ref x_Twice] = some false)
    (ev_NotThere : PySem.W.kitOne K (.ref x_NotThere) (.type "ValueError") = some true)
    (eg_NotThere : PySem.W.exmOne K (.ref x_NotThere) (.ref x_GapError) = some true)
    (h8c : cd_l_works = .ref c8)
    (h8l : K.lookup c8 = some ⟨oc8, od8, .fields vs8, sl8⟩)
    (h8v : vs8[11]? = some (.ref P8))
    (h8h : PySem.W.codeHdIn K c8 P8 = true)
    (h8n : K.lookup P8 = none)
    : LamX.LawAtS l w K CX0 9 63 "_law_script" mg fa h := by
  have e := hfa.symm.trans (PySem.W.mg_of X G ha_law)
  cases e
  subst h8c
  have F_narrowed := fun_mk (st := s_narrowed) hl_narrowed hd_narrowed hk_narrowed
  have F_check_total := fun_mk (st := s_check_total) hl_check_total hd_check_total hk_check_total
  have F_tight := fun_mk (st := s_tight) hl_tight hd_tight hk_tight
  have F_is_settled := fun_mk (st := s_is_settled) hl_is_settled hd_is_settled hk_is_settled
  have F_behind := fun_mk (st := s_behind) hl_behind hd_behind hk_behind
  have F_looks_in := fun_mk (st := s_looks_in) hl_looks_in hd_looks_in hk_looks_in
  have F_parted := fun_mk (st := s_parted) hl_parted hd_parted hk_parted
  have F_tightened := fun_mk (st := s_tightened) hl_tightened hd_tightened hk_tightened
  have F_check_box := fun_mk (st := s_check_box) hl_check_box hd_check_box hk_check_box
  have F_least := fun_mk (st := s_least) hl_least hd_least hk_least
  have F_paper := fun_mk (st := s_paper) hl_paper hd_paper hk_paper
  have F_shows := fun_mk (st := s_shows) hl_shows hd_shows hk_shows
  have F_l_start := fun_mk (st := s_l_start) hl_l_start hd_l_start hk_l_start
  have F_l_drawn := fun_mk (st := s_l_drawn) hl_l_drawn hd_l_drawn hk_l_drawn
  have F_l_same := fun_mk (st := s_l_same) hl_l_same hd_l_same hk_l_same
  have F_l_box := fun_mk (st := s_l_box) hl_l_box hd_l_box hk_l_box
  have F_l_of := fun_mk (st := s_l_of) hl_l_of hd_l_of hk_l_of
  have F_l_longer := fun_mk (st := s_l_longer) hl_l_longer hd_l_longer hk_l_longer
  have F_l_tight := fun_mk (st := s_l_tight) hl_l_tight hd_l_tight hk_l_tight
  have F_l_kind := fun_mk (st := s_l_kind) hl_l_kind hd_l_kind hk_l_kind
  have F_l_odd := fun_mk (st := s_l_odd) hl_l_odd hd_l_odd hk_l_odd
  have F_l_works := fun_mk (st := s_l_works) hl_l_works hd_l_works hk_l_works
  have F_law := fun_mk (st := s_law) hl_law hd_law hk_law
  let ad : Ad := { GapError := x_GapError, NoOffice := x_NoOffice, NoDesk := x_NoDesk, Stopped := x_Stopped, NoRoom := x_NoRoom, NoCount := x_NoCount, NoWord := x_NoWord, Short := x_Short, NoNumber := x_NoNumber, Twice := x_Twice, NotThere := x_NotThere, NoWorld := x_NoWorld, NoBox := x_NoBox, narrowed := f_narrowed, check_total := f_check_total, tight := f_tight, is_settled := f_is_settled, behind := f_behind, looks_in := f_looks_in, parted := f_parted, tightened := f_tightened, check_box := f_check_box, least := f_least, paper := f_paper, shows := f_shows, l_start := f_l_start, l_drawn := f_l_drawn, l_same := f_l_same, l_box := f_l_box, l_of := f_l_of, l_longer := f_l_longer, l_tight := f_l_tight, l_kind := f_l_kind, l_odd := f_l_odd, l_works := f_l_works, law := fa }
  let fd : Fd := { narrowed := PySem.W.fnOf "narrowed" "narrowed" (defArgs s_narrowed) (defBody s_narrowed) (defScope s_narrowed) .none kV_narrowed dc_narrowed pm_narrowed an_narrowed cd_narrowed ct_narrowed, check_total := PySem.W.fnOf "_check_total" "_check_total" (defArgs s_check_total) (defBody s_check_total) (defScope s_check_total) .none kV_check_total dc_check_total pm_check_total an_check_total cd_check_total ct_check_total, tight := PySem.W.fnOf "tight" "tight" (defArgs s_tight) (defBody s_tight) (defScope s_tight) .none kV_tight dc_tight pm_tight an_tight cd_tight ct_tight, is_settled := PySem.W.fnOf "is_settled" "is_settled" (defArgs s_is_settled) (defBody s_is_settled) (defScope s_is_settled) .none kV_is_settled dc_is_settled pm_is_settled an_is_settled cd_is_settled ct_is_settled, behind := PySem.W.fnOf "behind" "behind" (defArgs s_behind) (defBody s_behind) (defScope s_behind) .none kV_behind dc_behind pm_behind an_behind cd_behind ct_behind, looks_in := PySem.W.fnOf "looks_in" "looks_in" (defArgs s_looks_in) (defBody s_looks_in) (defScope s_looks_in) .none kV_looks_in dc_looks_in pm_looks_in an_looks_in cd_looks_in ct_looks_in, parted := PySem.W.fnOf "parted" "parted" (defArgs s_parted) (defBody s_parted) (defScope s_parted) .none kV_parted dc_parted pm_parted an_parted cd_parted ct_parted, tightened := PySem.W.fnOf "_tightened" "_tightened" (defArgs s_tightened) (defBody s_tightened) (defScope s_tightened) .none kV_tightened dc_tightened pm_tightened an_tightened cd_tightened ct_tightened, check_box := PySem.W.fnOf "_check_box" "_check_box" (defArgs s_check_box) (defBody s_check_box) (defScope s_check_box) .none kV_check_box dc_check_box pm_check_box an_check_box cd_check_box ct_check_box, least := PySem.W.fnOf "least" "least" (defArgs s_least) (defBody s_least) (defScope s_least) .none kV_least dc_least pm_least an_least cd_least ct_least, paper := PySem.W.fnOf "paper" "paper" (defArgs s_paper) (defBody s_paper) (defScope s_paper) .none kV_paper dc_paper pm_paper an_paper cd_paper ct_paper, shows := PySem.W.fnOf "shows" "shows" (defArgs s_shows) (defBody s_shows) (defScope s_shows) .none kV_shows dc_shows pm_shows an_shows cd_shows ct_shows, l_start := PySem.W.fnOf "_law_start" "_law_start" (defArgs s_l_start) (defBody s_l_start) (defScope s_l_start) .none kV_l_start dc_l_start pm_l_start an_l_start cd_l_start ct_l_start, l_drawn := PySem.W.fnOf "_law_drawn" "_law_drawn" (defArgs s_l_drawn) (defBody s_l_drawn) (defScope s_l_drawn) .none kV_l_drawn dc_l_drawn pm_l_drawn an_l_drawn cd_l_drawn ct_l_drawn, l_same := PySem.W.fnOf "_law_same" "_law_same" (defArgs s_l_same) (defBody s_l_same) (defScope s_l_same) .none kV_l_same dc_l_same pm_l_same an_l_same cd_l_same ct_l_same, l_box := PySem.W.fnOf "_law_box" "_law_box" (defArgs s_l_box) (defBody s_l_box) (defScope s_l_box) .none kV_l_box dc_l_box pm_l_box an_l_box cd_l_box ct_l_box, l_of := PySem.W.fnOf "_law_of" "_law_of" (defArgs s_l_of) (defBody s_l_of) (defScope s_l_of) .none kV_l_of dc_l_of pm_l_of an_l_of cd_l_of ct_l_of, l_longer := PySem.W.fnOf "_law_longer" "_law_longer" (defArgs s_l_longer) (defBody s_l_longer) (defScope s_l_longer) .none kV_l_longer dc_l_longer pm_l_longer an_l_longer cd_l_longer ct_l_longer, l_tight := PySem.W.fnOf "_law_tight" "_law_tight" (defArgs s_l_tight) (defBody s_l_tight) (defScope s_l_tight) .none kV_l_tight dc_l_tight pm_l_tight an_l_tight cd_l_tight ct_l_tight, l_kind := PySem.W.fnOf "_law_kind" "_law_kind" (defArgs s_l_kind) (defBody s_l_kind) (defScope s_l_kind) .none kV_l_kind dc_l_kind pm_l_kind an_l_kind cd_l_kind ct_l_kind, l_odd := PySem.W.fnOf "_law_odd" "_law_odd" (defArgs s_l_odd) (defBody s_l_odd) (defScope s_l_odd) .none kV_l_odd dc_l_odd pm_l_odd an_l_odd cd_l_odd ct_l_odd, l_works := PySem.W.fnOf "_law_works" "_law_works" (defArgs s_l_works) (defBody s_l_works) (defScope s_l_works) .none kV_l_works dc_l_works pm_l_works an_l_works (.ref c8) ct_l_works, law := PySem.W.fnOf "law" "law" (defArgs s_law) (defBody s_law) (defScope s_law) .none kV_law dc_law pm_law an_law cd_law ct_law }
  have T : Txt K mg ad fd := {
    n_len := PySem.W.mg_none_of X G hn_len,
    n_range := PySem.W.mg_none_of X G hn_range,
    n_tuple := PySem.W.mg_none_of X G hn_tuple,
    n_list := PySem.W.mg_none_of X G hn_list,
    n_isinstance := PySem.W.mg_none_of X G hn_isinstance,
    n_int := PySem.W.mg_none_of X G hn_int,
    n_str := PySem.W.mg_none_of X G hn_str,
    n_bool := PySem.W.mg_none_of X G hn_bool,
    n_zip := PySem.W.mg_none_of X G hn_zip,
    n_min := PySem.W.mg_none_of X G hn_min,
    n_max := PySem.W.mg_none_of X G hn_max,
    n_sum := PySem.W.mg_none_of X G hn_sum,
    n_ValueError := PySem.W.mg_none_of X G hn_ValueError,
    g_MOST_PLACES := ⟨_, PySem.W.mg_of X G hc_MOST_PLACES⟩,
    g_GREATEST_HIGH := ⟨_, PySem.W.mg_of X G hc_GREATEST_HIGH⟩,
    x_GapError := ⟨xx_GapError, PySem.W.mg_of X G xg_GapError, xk_GapError, xb_GapError, xt_GapError⟩,
    x_NoOffice := ⟨xx_NoOffice, PySem.W.mg_of X G xg_NoOffice, xk_NoOffice, xb_NoOffice, xt_NoOffice⟩,
    x_NoDesk := ⟨xx_NoDesk, PySem.W.mg_of X G xg_NoDesk, xk_NoDesk, xb_NoDesk, xt_NoDesk⟩,
    x_Stopped := ⟨xx_Stopped, PySem.W.mg_of X G xg_Stopped, xk_Stopped, xb_Stopped, xt_Stopped⟩,
    x_NoRoom := ⟨xx_NoRoom, PySem.W.mg_of X G xg_NoRoom, xk_NoRoom, xb_NoRoom, xt_NoRoom⟩,
    x_NoCount := ⟨xx_NoCount, PySem.W.mg_of X G xg_NoCount, xk_NoCount, xb_NoCount, xt_NoCount⟩,
    x_NoWord := ⟨xx_NoWord, PySem.W.mg_of X G xg_NoWord, xk_NoWord, xb_NoWord, xt_NoWord⟩,
    x_Short := ⟨xx_Short, PySem.W.mg_of X G xg_Short, xk_Short, xb_Short, xt_Short⟩,
    x_NoNumber := ⟨xx_NoNumber, PySem.W.mg_of X G xg_NoNumber, xk_NoNumber, xb_NoNumber, xt_NoNumber⟩,
    x_Twice := ⟨xx_Twice, PySem.W.mg_of X G xg_Twice, xk_Twice, xb_Twice, xt_Twice⟩,
    x_NotThere := ⟨xx_NotThere, PySem.W.mg_of X G xg_NotThere, xk_NotThere, xb_NotThere, xt_NotThere⟩,
    x_NoWorld := ⟨xx_NoWorld, PySem.W.mg_of X G xg_NoWorld, xk_NoWorld, xb_NoWorld, xt_NoWorld⟩,
    x_NoBox := ⟨xx_NoBox, PySem.W.mg_of X G xg_NoBox, xk_NoBox, xb_NoBox, xt_NoBox⟩,
    F_narrowed := F_narrowed,
    b_narrowed := F_narrowed.binds (ps := ["lows", "highs", "total"]) fun _ _ _ _ _ _ us hl => match us, hl with | [_, _, _], _ => rfl,
    g_narrowed := PySem.W.mg_of X G ha_narrowed,
    F_check_total := F_check_total,
    b_check_total := F_check_total.binds (ps := ["lows", "highs", "total"]) fun _ _ _ _ _ _ us hl => match us, hl with | [_, _, _], _ => rfl,
    g_check_total := PySem.W.mg_of X G ha_check_total,
    F_tight := F_tight,
    b_tight := F_tight.binds (ps := ["box"]) fun _ _ _ _ _ _ us hl => match us, hl with | [_], _ => rfl,
    g_tight := PySem.W.mg_of X G ha_tight,
    F_is_settled := F_is_settled,
    b_is_settled := F_is_settled.binds (ps := ["box"]) fun _ _ _ _ _ _ us hl => match us, hl with | [_], _ => rfl,
    g_is_settled := PySem.W.mg_of X G ha_is_settled,
    F_behind := F_behind,
    b_behind := F_behind.binds (ps := ["box", "look"]) fun _ _ _ _ _ _ us hl => match us, hl with | [_, _], _ => rfl,
    g_behind := PySem.W.mg_of X G ha_behind,
    F_looks_in := F_looks_in,
    b_looks_in := F_looks_in.binds (ps := ["box"]) fun _ _ _ _ _ _ us hl => match us, hl with | [_], _ => rfl,
    g_looks_in := PySem.W.mg_of X G ha_looks_in,
    F_parted := F_parted,
    b_parted := F_parted.binds (ps := ["box", "look"]) fun _ _ _ _ _ _ us hl => match us, hl with | [_, _], _ => rfl,
    g_parted := PySem.W.mg_of X G ha_parted,
    F_tightened := F_tightened,
    b_tightened := F_tightened.binds (ps := ["lows", "highs", "total"]) fun _ _ _ _ _ _ us hl => match us, hl with | [_, _, _], _ => rfl,
    g_tightened := PySem.W.mg_of X G ha_tightened,
    F_check_box := F_check_box,
    b_check_box := F_check_box.binds (ps := ["box"]) fun _ _ _ _ _ _ us hl => match us, hl with | [_], _ => rfl,
    g_check_box := PySem.W.mg_of X G ha_check_box,
    F_least := F_least,
    b_least := F_least.binds (ps := ["box"]) fun _ _ _ _ _ _ us hl => match us, hl with | [_], _ => rfl,
    g_least := PySem.W.mg_of X G ha_least,
    F_paper := F_paper,
    b_paper := F_paper.binds (ps := ["box"]) fun _ _ _ _ _ _ us hl => match us, hl with | [_], _ => rfl,
    g_paper := PySem.W.mg_of X G ha_paper,
    F_shows := F_shows,
    b_shows := F_shows.binds (ps := ["box", "depth", "rows"]) fun _ _ _ _ _ _ us hl => match us, hl with | [_, _, _], _ => rfl,
    g_shows := PySem.W.mg_of X G ha_shows,
    F_l_start := F_l_start,
    b_l_start := F_l_start.binds (ps := ["_law_script"]) fun _ _ _ _ _ _ us hl => match us, hl with | [_], _ => rfl,
    g_l_start := PySem.W.mg_of X G ha_l_start,
    F_l_drawn := F_l_drawn,
    b_l_drawn := F_l_drawn.binds (ps := ["_law_state", "_law_many"]) fun _ _ _ _ _ _ us hl => match us, hl with | [_, _], _ => rfl,
    g_l_drawn := PySem.W.mg_of X G ha_l_drawn,
    F_l_same := F_l_same,
    b_l_same := F_l_same.binds (ps := ["_law_found", "_law_due"]) fun _ _ _ _ _ _ us hl => match us, hl with | [_, _], _ => rfl,
    g_l_same := PySem.W.mg_of X G ha_l_same,
    F_l_box := F_l_box,
    b_l_box := F_l_box.binds (ps := ["_law_state"]) fun _ _ _ _ _ _ us hl => match us, hl with | [_], _ => rfl,
    g_l_box := PySem.W.mg_of X G ha_l_box,
    F_l_of := F_l_of,
    b_l_of := F_l_of.binds (ps := ["_law_lows", "_law_highs", "_law_total"]) fun _ _ _ _ _ _ us hl => match us, hl with | [_, _, _], _ => rfl,
    g_l_of := PySem.W.mg_of X G ha_l_of,
    F_l_longer := F_l_longer,
    b_l_longer := F_l_longer.binds (ps := ["_law_found", "_law_low", "_law_high"]) fun _ _ _ _ _ _ us hl => match us, hl with | [_, _, _], _ => rfl,
    g_l_longer := PySem.W.mg_of X G ha_l_longer,
    F_l_tight := F_l_tight,
    b_l_tight := F_l_tight.binds (ps := ["_law_every"]) fun _ _ _ _ _ _ us hl => match us, hl with | [_], _ => rfl,
    g_l_tight := PySem.W.mg_of X G ha_l_tight,
    F_l_kind := F_l_kind,
    b_l_kind := F_l_kind.binds (ps := ["_law_work"]) fun _ _ _ _ _ _ us hl => match us, hl with | [_], _ => rfl,
    g_l_kind := PySem.W.mg_of X G ha_l_kind,
    F_l_odd := F_l_odd,
    b_l_odd := F_l_odd.binds (ps := ["_law_state"]) fun _ _ _ _ _ _ us hl => match us, hl with | [_], _ => rfl,
    g_l_odd := PySem.W.mg_of X G ha_l_odd,
    F_l_works := F_l_works,
    b_l_works := F_l_works.binds (ps := ["_law_box_here"]) fun _ _ _ _ _ _ us hl => match us, hl with | [_], _ => rfl,
    g_l_works := PySem.W.mg_of X G ha_l_works,
    F_law := F_law,
    b_law := F_law.binds (ps := ["_law_script"]) fun _ _ _ _ _ _ us hl => match us, hl with | [_], _ => rfl,
    g_law := PySem.W.mg_of X G ha_law }
  have kn_NoBox : Kn3 K ad x_NoBox 0 := ⟨by decide, lt3 e0_NoBox e1_NoBox e2_NoBox, eo_NoBox, ev_NoBox, eg_NoBox, ⟨ehg_NoBox, ehk_NoBox, xb_NoBox, ehd_NoBox, eha_NoBox, ecn, ect, ehm_NoBox⟩⟩
  have kn_NoWorld : Kn3 K ad x_NoWorld 1 := ⟨by decide, lt3 e0_NoWorld e1_NoWorld e2_NoWorld, eo_NoWorld, ev_NoWorld, eg_NoWorld, ⟨ehg_NoWorld, ehk_NoWorld, xb_NoWorld, ehd_NoWorld, eha_NoWorld, ecn, ect, ehm_NoWorld⟩⟩
  have kn_NotThere : Kn3 K ad x_NotThere 2 := ⟨by decide, lt3 e0_NotThere e1_NotThere e2_NotThere, eo_NotThere, ev_NotThere, eg_NotThere, ⟨ehg_NotThere, ehk_NotThere, xb_NotThere, ehd_NotThere, eha_NotThere, ecn, ect, ehm_NotThere⟩⟩
  have KN : ∀ i, i < 3 → Kn3 K ad (three ad i) i := lt3 kn_NoBox kn_NoWorld kn_NotThere
  have hP8 : h.get? P8 = some { cls := .none, data := .fields #[] } := own8 _ (PySem.W.mg_of X G ha_l_works) c8 P8 _ _ _ _ _ _ hl_l_works rfl rfl h8l h8v
  refine ⟨fd.law, [(c8, P8)], spLaw K [(P8, wQ)], fun p hp => ?_, fun p hp => ?_, fun p hp => ?_, fun s v => .of_eq rfl, fun H a ns hl _ hT S => ⟨a, ns, rfl, S, hl, fun p hp => ?_, fun _ => rfl⟩, fun base _ _ hB => ?_⟩
  · rw [List.mem_singleton.mp hp]
    exact hP8
  · rw [List.mem_singleton.mp hp]
    exact h8n
  · rw [List.mem_singleton.mp hp]
    exact PySem.W.codeHd_of_K X h8h
  · rw [List.mem_singleton.mp hp]
    exact LamX.TabS.nil (hT (c8, P8) List.mem_cons_self)
  · exact ok_law (c8 := c8) (P8 := P8) T KN rfl (hB (c8, P8) List.mem_cons_self) List.mem_cons_self (fun p hp e => by rw [List.mem_singleton.mp hp])
theorem walk {l : PySem.W.OpenLaw} {q : Program} {loose : List Str} {XP : (Str → Option Value) → Heap → Prop} {YP : World → Heap → Prop} {d : DefRec} {K : Params → PySem.W.Frag} (hn : l.most = some 63) (hdf : d.params.defaults = [])
    (hrec8 : ((recsOf q).any fun e => e.name == "_law_works") = true) (hY : ∀ (w : World) (h : Heap), YP w h → (K w.params).In h)
    (F : ∀ (w : World) (mg : Str → Option Value) (fa : Addr) (h : Heap), (K w.params).In h → h.Ns mainGlobals mg → mg d.name = some (.ref fa) → (∀ f8, mg "_law_works" = some (.ref f8) → LamX.OwnTab (K w.params) f8 h) → LamX.LawAtS l w (K w.params) CX0 9 63 "_law_script" mg fa h) :
    PySem.W.WalkO q loose XP YP l.row.toRowW d [] (fun f vs => PySem.call f vs) := by
  refine Att.attach_callB hn hdf fun w t0 t1 mg mb fa ob pm cd doc a us ns GG Y ho hd hcd hmg hobj hi hlen hbits hg => ?_
  have KX := hY w _ Y
  have tabs : ∀ (nm : Str) (fx : Addr), ((recsOf q).any fun e => e.name == nm) = true → mg nm = some (.ref fx) → LamX.OwnTab (K w.params) fx t1.heap := by
    intro nm fx hr hx c P o1 fd1 e dd vs1 sl k1 k2 k3 k4 k5
    obtain ⟨dL, hm, hb⟩ := List.any_eq_true.mp hr
    have hb : dL.name = nm := beq_iff_eq.mp hb
    obtain ⟨a2, o2, fd2, c2, P2, g1, g2, g3, g4, _, g5⟩ := GG.T.tab dL hm
    obtain ⟨⟨oc, vc, e1, _, e3, e4⟩, g6⟩ := g5
    rw [hb, hx] at g1
    cases g1
    rw [KX _ _ k1] at g2
    cases g2
    rw [k2] at g3
    cases g3
    rw [k3] at g4
    cases g4
    rw [KX _ _ k4] at e1
    cases e1
    cases e3
    rw [k5] at e4
    cases e4
    exact g6
  obtain ⟨fd, cs, sp, p1, p2, p3, p4, p5, p6⟩ := F w mg fa _ KX GG.T.g hmg fun f8 h8 => tabs _ _ hrec8 h8
  exact LamX.law_callTs KX GG.T.g GG.T.b GG.T.builtins GG.T.nolimit hg p1 p2 p3 GG.T.bmain hobj hi (Nat.le_trans hlen (by decide)) ⟨rfl, by decide, by decide⟩ p6 p4 (fun H hH hS => p5 H a ns hlen hbits hH hS) fun _ _ _ z => z
end Nu
open PySem PySem.W PyProof.Rows in
set_option maxRecDepth 100000 in
set_option maxHeartbeats 0 in
theorem PySem.Challenge.cw_numbergaps_k08_boxes_tight_holds : PySem.Challenge.rw_numbergaps_k08_boxes_tight.Holds := by
  w_on; o_law; k_head; (case hw => w_witness2)
  k_fill
  refine Nu.walk (l := PySem.Challenge.rw_numbergaps_k08_boxes_tight) rfl rfl (by first | kernel_rfl | rfl | decide +kernel) (fun w h Y => by first | exact PySem.W.kIn_of Y | exact PySem.W.km_in_of Y) ?F
  case F =>
    intro w mg fa h KX G hmg own8
    refine' Nu.all_mk KX G hmg own8 ?hn_len ?hn_range ?hn_tuple ?hn_list ?hn_isinstance ?hn_int ?hn_str ?hn_bool ?hn_zip ?hn_min ?hn_max ?hn_sum ?hn_ValueError ?hc_MOST_PLACES ?hc_GREATEST_HIGH ?ha_narrowed ?hl_narrowed ?hd_narrowed ?hk_narrowed ?ha_check_total ?hl_check_total ?hd_check_total ?hk_check_total ?ha_tight ?hl_tight ?hd_tight ?hk_tight ?ha_is_settled ?hl_is_settled ?hd_is_settled ?hk_is_settled ?ha_behind ?hl_behind ?hd_behind ?hk_behind ?ha_looks_in ?hl_looks_in ?hd_looks_in ?hk_looks_in ?ha_parted ?hl_parted ?hd_parted ?hk_parted ?ha_tightened ?hl_tightened ?hd_tightened ?hk_tightened ?ha_check_box ?hl_check_box ?hd_check_box ?hk_check_box ?ha_least ?hl_least ?hd_least ?hk_least ?ha_paper ?hl_paper ?hd_paper ?hk_paper ?ha_shows ?hl_shows ?hd_shows ?hk_shows ?ha_l_start ?hl_l_start ?hd_l_start ?hk_l_start ?ha_l_drawn ?hl_l_drawn ?hd_l_drawn ?hk_l_drawn ?ha_l_same ?hl_l_same ?hd_l_same ?hk_l_same ?ha_l_box ?hl_l_box ?hd_l_box ?hk_l_box ?ha_l_of ?hl_l_of ?hd_l_of ?hk_l_of ?ha_l_longer ?hl_l_longer ?hd_l_longer ?hk_l_longer ?ha_l_tight ?hl_l_tight ?hd_l_tight ?hk_l_tight ?ha_l_kind ?hl_l_kind ?hd_l_kind ?hk_l_kind ?ha_l_odd ?hl_l_odd ?hd_l_odd ?hk_l_odd ?ha_l_works ?hl_l_works ?hd_l_works ?hk_l_works ?ha_law ?hl_law ?hd_law ?hk_law ?xg_GapError ?xx_GapError ?xk_GapError ?xb_GapError ?xt_GapError ?xg_NoOffice ?xx_NoOffice ?xk_NoOffice ?xb_NoOffice ?xt_NoOffice ?xg_NoDesk ?xx_NoDesk ?xk_NoDesk ?xb_NoDesk ?xt_NoDesk ?xg_Stopped ?xx_Stopped ?xk_Stopped ?xb_Stopped ?xt_Stopped ?xg_NoRoom ?xx_NoRoom ?xk_NoRoom ?xb_NoRoom ?xt_NoRoom ?xg_NoCount ?xx_NoCount ?xk_NoCount ?xb_NoCount ?xt_NoCount ?xg_NoWord ?xx_NoWord ?xk_NoWord ?xb_NoWord ?xt_NoWord ?xg_Short ?xx_Short ?xk_Short ?xb_Short ?xt_Short ?xg_NoNumber ?xx_NoNumber ?xk_NoNumber ?xb_NoNumber ?xt_NoNumber ?xg_Twice ?xx_Twice ?xk_Twice ?xb_Twice ?xt_Twice ?xg_NotThere ?xx_NotThere ?xk_NotThere ?xb_NotThere ?xt_NotThere ?xg_NoWorld ?xx_NoWorld ?xk_NoWorld ?xb_NoWorld ?xt_NoWorld ?xg_NoBox ?xx_NoBox ?xk_NoBox ?xb_NoBox ?xt_NoBox ?ecn ?ect ?ehg_NoBox ?ehk_NoBox ?ehd_NoBox ?eha_NoBox ?ehm_NoBox ?e0_NoBox ?e1_NoBox ?e2_NoBox ?eo_NoBox ?ev_NoBox ?eg_NoBox ?ehg_NoWorld ?ehk_NoWorld ?ehd_NoWorld ?eha_NoWorld ?ehm_NoWorld ?e0_NoWorld ?e1_NoWorld ?e2_NoWorld ?eo_NoWorld ?ev_NoWorld ?eg_NoWorld ?ehg_NotThere ?ehk_NotThere ?ehd_NotThere ?eha_NotThere ?ehm_NotThere ?e0_NotThere ?e1_NotThere ?e2_NotThere ?eo_NotThere ?ev_NotThere ?eg_NotThere ?h8c ?h8l ?h8v ?h8h ?h8n
    (case hn_len => k_is)
    (case hn_range => k_is)
    (case hn_tuple => k_is)
    (case hn_list => k_is)
    (case hn_isinstance => k_is)
    (case hn_int => k_is)
    (case hn_str => k_is)
    (case hn_bool => k_is)
    (case hn_zip => k_is)
    (case hn_min => k_is)
    (case hn_max => k_is)
    (case hn_sum => k_is)
    (case hn_ValueError => k_is)
    (case hc_MOST_PLACES => k_is)
    (case hc_GREATEST_HIGH => k_is)
    (case ha_narrowed => k_is)
    (case hl_narrowed => k_is)
    (case hd_narrowed => k_is)
    (case hk_narrowed => k_is)
    (case ha_check_total => k_is)
    (case hl_check_total => k_is)
    (case hd_check_total => k_is)
    (case hk_check_total => k_is)
    (case ha_tight => k_is)
    (case hl_tight => k_is)
    (case hd_tight => k_is)
    (case hk_tight => k_is)
    (case ha_is_settled => k_is)
    (case hl_is_settled => k_is)
    (case hd_is_settled => k_is)
    (case hk_is_settled => k_is)
    (case ha_behind => k_is)
    (case hl_behind => k_is)
    (case hd_behind => k_is)
    (case hk_behind => k_is)
    (case ha_looks_in => k_is)
    (case hl_looks_in => k_is)
    (case hd_looks_in => k_is)
    (case hk_looks_in => k_is)
    (case ha_parted => k_is)
    (case hl_parted => k_is)
    (case hd_parted => k_is)
    (case hk_parted => k_is)
    (case ha_tightened => k_is)
    (case hl_tightened => k_is)
    (case hd_tightened => k_is)
    (case hk_tightened => k_is)
    (case ha_check_box => k_is)
    (case hl_check_box => k_is)
    (case hd_check_box => k_is)
    (case hk_check_box => k_is)
    (case ha_least => k_is)
    (case hl_least => k_is)
    (case hd_least => k_is)
    (case hk_least => k_is)
    (case ha_paper => k_is)
    (case hl_paper => k_is)
    (case hd_paper => k_is)
    (case hk_paper => k_is)
    (case ha_shows => k_is)
    (case hl_shows => k_is)
    (case hd_shows => k_is)
    (case hk_shows => k_is)
    (case ha_l_start => k_is)
    (case hl_l_start => k_is)
    (case hd_l_start => k_is)
    (case hk_l_start => k_is)
    (case ha_l_drawn => k_is)
    (case hl_l_drawn => k_is)
    (case hd_l_drawn => k_is)
    (case hk_l_drawn => k_is)
    (case ha_l_same => k_is)
    (case hl_l_same => k_is)
    (case hd_l_same => k_is)
    (case hk_l_same => k_is)
    (case ha_l_box => k_is)
    (case hl_l_box => k_is)
    (case hd_l_box => k_is)
    (case hk_l_box => k_is)
    (case ha_l_of => k_is)
    (case hl_l_of => k_is)
    (case hd_l_of => k_is)
    (case hk_l_of => k_is)
    (case ha_l_longer => k_is)
    (case hl_l_longer => k_is)
    (case hd_l_longer => k_is)
    (case hk_l_longer => k_is)
    (case ha_l_tight => k_is)
    (case hl_l_tight => k_is)
    (case hd_l_tight => k_is)
    (case hk_l_tight => k_is)
    (case ha_l_kind => k_is)
    (case hl_l_kind => k_is)
    (case hd_l_kind => k_is)
    (case hk_l_kind => k_is)
    (case ha_l_odd => k_is)
    (case hl_l_odd => k_is)
    (case hd_l_odd => k_is)
    (case hk_l_odd => k_is)
    (case ha_l_works => k_is)
    (case hl_l_works => k_is)
    (case hd_l_works => k_is)
    (case hk_l_works => k_is)
    (case ha_law => k_is)
    (case hl_law => k_is)
    (case hd_law => k_is)
    (case hk_law => k_is)
    (case xg_GapError => k_is)
    (case xx_GapError => k_exc)
    (case xk_GapError => k_is)
    (case xb_GapError => k_is)
    (case xt_GapError => k_is)
    (case xg_NoOffice => k_is)
    (case xx_NoOffice => k_exc)
    (case xk_NoOffice => k_is)
    (case xb_NoOffice => k_is)
    (case xt_NoOffice => k_is)
    (case xg_NoDesk => k_is)
    (case xx_NoDesk => k_exc)
    (case xk_NoDesk => k_is)
    (case xb_NoDesk => k_is)
    (case xt_NoDesk => k_is)
    (case xg_Stopped => k_is)
    (case xx_Stopped => k_exc)
    (case xk_Stopped => k_is)
    (case xb_Stopped => k_is)
    (case xt_Stopped => k_is)
    (case xg_NoRoom => k_is)
    (case xx_NoRoom => k_exc)
    (case xk_NoRoom => k_is)
    (case xb_NoRoom => k_is)
    (case xt_NoRoom => k_is)
    (case xg_NoCount => k_is)
    (case xx_NoCount => k_exc)
    (case xk_NoCount => k_is)
    (case xb_NoCount => k_is)
    (case xt_NoCount => k_is)
    (case xg_NoWord => k_is)
    (case xx_NoWord => k_exc)
    (case xk_NoWord => k_is)
    (case xb_NoWord => k_is)
    (case xt_NoWord => k_is)
    (case xg_Short => k_is)
    (case xx_Short => k_exc)
    (case xk_Short => k_is)
    (case xb_Short => k_is)
    (case xt_Short => k_is)
    (case xg_NoNumber => k_is)
    (case xx_NoNumber => k_exc)
    (case xk_NoNumber => k_is)
    (case xb_NoNumber => k_is)
    (case xt_NoNumber => k_is)
    (case xg_Twice => k_is)
    (case xx_Twice => k_exc)
    (case xk_Twice => k_is)
    (case xb_Twice => k_is)
    (case xt_Twice => k_is)
    (case xg_NotThere => k_is)
    (case xx_NotThere => k_exc)
    (case xk_NotThere => k_is)
    (case xb_NotThere => k_is)
    (case xt_NotThere => k_is)
    (case xg_NoWorld => k_is)
    (case xx_NoWorld => k_exc)
    (case xk_NoWorld => k_is)
    (case xb_NoWorld => k_is)
    (case xt_NoWorld => k_is)
    (case xg_NoBox => k_is)
    (case xx_NoBox => k_exc)
    (case xk_NoBox => k_is)
    (case xb_NoBox => k_is)
    (case xt_NoBox => k_is)
    (case ecn => k_is)
    (case ect => k_is)
    (case ehg_NoBox => k_is)
    (case ehk_NoBox => k_is)
    (case ehd_NoBox => k_is)
    (case eha_NoBox => k_is)
    (case ehm_NoBox => k_is)
    (case e0_NoBox => kit_is)
    (case e1_NoBox => kit_is)
    (case e2_NoBox => kit_is)
    (case eo_NoBox => kit_is)
    (case ev_NoBox => kit_is)
    (case eg_NoBox => kts_exm)
    (case ehg_NoWorld => k_is)
    (case ehk_NoWorld => k_is)
    (case ehd_NoWorld => k_is)
    (case eha_NoWorld => k_is)
    (case ehm_NoWorld => k_is)
    (case e0_NoWorld => kit_is)
    (case e1_NoWorld => kit_is)
    (case e2_NoWorld => kit_is)
    (case eo_NoWorld => kit_is)
    (case ev_NoWorld => kit_is)
    (case eg_NoWorld => kts_exm)
    (case ehg_NotThere => k_is)
    (case ehk_NotThere => k_is)
    (case ehd_NotThere => k_is)
    (case eha_NotThere => k_is)
    (case ehm_NotThere => k_is)
    (case e0_NotThere => kit_is)
    (case e1_NotThere => kit_is)
    (case e2_NotThere => kit_is)
    (case eo_NotThere => kit_is)
    (case ev_NotThere => kit_is)
    (case eg_NotThere => kts_exm)
    (case h8c => rfl)
    (case h8l => k_is)
    (case h8v => rfl)
    (case h8h => first | kernel_rfl | rfl | decide +kernel)
    (case h8n => first | kernel_rfl | rfl | decide +kernel)
