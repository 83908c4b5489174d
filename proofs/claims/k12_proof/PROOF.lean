import PyProof.Rows.All
import Wide.All
import OpenK.AllK
import Wide.FinOn
import HandS.ForMost
import HandS.ForExc
import HandS.DictComp
import HandS.FStr
import HandS.Small
import HandS.IsInst
import HandS.ExcIs
import HandS.Wide
import HandS.SortInts
import HandS.Conv
import HandS.Zip
import HandS.Flow
import PySem.Challenge.RW_numbergaps_k12_whole_a_paper_shows_that
import HandS.Walk
import KE.KDictZip
import HandS.TupAny
import HandS.Deep
import KE.KDictKeyed
import KE.DatumOrd
import HandS.DictSubView
import KE.KDictDisplayH
import HandS.TryOnly
import KE.KTryMore
import HandS.SortKw
import HandS.Flt
import HandS.Style
set_option Elab.async false
set_option linter.all false
set_option maxRecDepth 100000
set_option maxHeartbeats 4000000
namespace Nu
open PySem L2
/-! ### heaps -/
/-- what is tracked outside of F stays -/
def Keep (F : List Addr) (H H' : Hp) : Prop := ∀ c o, H c = some o → c ∉ F → H' c = some o
theorem Keep.refl (F : List Addr) (H : Hp) : Keep F H H := fun _ _ h _ => h
theorem Keep.trans {F : List Addr} {H H1 H2 : Hp} (a : Keep F H H1) (b : Keep F H1 H2) : Keep F H H2 := fun c o h n => b c o (a c o h n) n
theorem Keep.same {F : List Addr} {H H' : Hp} (s : Same H H') : Keep F H H' := fun c o h _ => s c o h
theorem keep_upd {F : List Addr} {H : Hp} {a : Addr} {o : HO} (h : a ∈ F ∨ H a = none) : Keep F H (upd H a o) := fun c u e n => by
  have ne : c ≠ a := fun z => by
    rcases h with h | h
    · exact n (by rw [z]; exact h)
    · rw [z, h] at e; cases e
  rw [upd_ne ne]
  exact e
theorem same_upd {H : Hp} {a : Addr} {o : HO} (h : H a = none) : Same H (upd H a o) := fun c u e => by
  rw [upd_ne (fun z => by rw [z, h] at e; cases e)]
  exact e
end Nu
namespace Nu
open PySem PySem.Spec PyProof.Rows L2
def top (i : Nat) : Stmt := PySem.Challenge.pw_numbergaps_k12_whole_a_paper_shows_that.main.body.getD i (.Pass ⟨0, 0, 0, 0⟩)
abbrev s_narrowed : Stmt := top 5
theorem sc_narrowed : FnScope ["lows", "highs", "total", "above", "below", "low", "high"] ["lows", "highs", "total"] (defScope s_narrowed) := ⟨rfl, rfl, rfl, by decide +kernel, rfl, by decide +kernel, by decide +kernel⟩
abbrev s_check_total : Stmt := top 6
theorem sc_check_total : FnScope ["lows", "highs", "total"] ["lows", "highs", "total"] (defScope s_check_total) := ⟨rfl, rfl, rfl, by decide +kernel, rfl, by decide +kernel, by decide +kernel⟩
abbrev s_tight : Stmt := top 10
theorem sc_tight : FnScope ["box", "lows", "highs", "total"] ["box"] (defScope s_tight) := ⟨rfl, rfl, rfl, by decide +kernel, rfl, by decide +kernel, by decide +kernel⟩
abbrev s_looks_in : Stmt := top 11
theorem sc_looks_in : FnScope ["box", "lows", "highs", "_", "k", "many"] ["box"] (defScope s_looks_in) := ⟨rfl, rfl, rfl, by decide +kernel, rfl, by decide +kernel, by decide +kernel⟩
abbrev s_parted : Stmt := top 12
theorem sc_parted : FnScope ["box", "look", "lows", "highs", "total", "k", "many", "yes", "no"] ["box", "look"] (defScope s_parted) := ⟨rfl, rfl, rfl, by decide +kernel, rfl, by decide +kernel, by decide +kernel⟩
abbrev s_tightened : Stmt := top 13
theorem sc_tightened : FnScope ["lows", "highs", "total", "spans", "low", "high"] ["lows", "highs", "total"] (defScope s_tightened) := ⟨rfl, rfl, rfl, by decide +kernel, rfl, by decide +kernel, by decide +kernel⟩
abbrev s_check_box : Stmt := top 14
theorem sc_check_box : FnScope ["box", "lows", "highs", "_", "low", "high"] ["box"] (defScope s_check_box) := ⟨rfl, rfl, rfl, by decide +kernel, rfl, by decide +kernel, by decide +kernel⟩
abbrev s_Depths_init : Stmt := inClass (top 16) 0
theorem sc_Depths_init : FnScope ["self"] ["self"] (defScope s_Depths_init) := ⟨rfl, rfl, rfl, by decide +kernel, rfl, by decide +kernel, by decide +kernel⟩
abbrev s_Depths_depth_of : Stmt := inClass (top 16) 1
theorem sc_Depths_depth_of : FnScope ["self", "box", "shape"] ["self", "box"] (defScope s_Depths_depth_of) := ⟨rfl, rfl, rfl, by decide +kernel, rfl, by decide +kernel, by decide +kernel⟩
abbrev s_Depths_best_look : Stmt := inClass (top 16) 2
theorem sc_Depths_best_look : FnScope ["self", "box", "_", "look"] ["self", "box"] (defScope s_Depths_best_look) := ⟨rfl, rfl, rfl, by decide +kernel, rfl, by decide +kernel, by decide +kernel⟩
abbrev s_Depths__worked_out : Stmt := inClass (top 16) 3
theorem sc_Depths__worked_out : FnScope ["self", "box", "rated", "left", "_"] ["self", "box"] (defScope s_Depths__worked_out) := ⟨rfl, rfl, rfl, by decide +kernel, rfl, by decide +kernel, by decide +kernel⟩
abbrev s_Depths__rated_looks : Stmt := inClass (top 16) 4
theorem sc_Depths__rated_looks : FnScope ["self", "box", "look"] ["self", "box"] (defScope s_Depths__rated_looks) := ⟨rfl, rfl, rfl, by decide +kernel, rfl, by decide +kernel, by decide +kernel⟩
abbrev s_Depths__left_behind : Stmt := inClass (top 16) 5
theorem sc_Depths__left_behind : FnScope ["self", "box", "look", "yes", "no"] ["self", "box", "look"] (defScope s_Depths__left_behind) := ⟨rfl, rfl, rfl, by decide +kernel, rfl, by decide +kernel, by decide +kernel⟩
abbrev s_shape : Stmt := top 17
theorem sc_shape : FnScope ["box", "lows", "highs", "total", "widths", "low", "high"] ["box"] (defScope s_shape) := ⟨rfl, rfl, rfl, by decide +kernel, rfl, by decide +kernel, by decide +kernel⟩
abbrev s_paper : Stmt := top 19
theorem sc_paper : FnScope ["box", "whole", "depths", "depth", "claims", "level", "left", "lows", "highs", "_", "claim"] ["box"] (defScope s_paper) := ⟨rfl, rfl, rfl, by decide +kernel, rfl, by decide +kernel, by decide +kernel⟩
abbrev s_shows : Stmt := top 20
theorem sc_shows : FnScope ["box", "depth", "rows", "lows", "highs", "total", "row", "claims"] ["box", "depth", "rows"] (defScope s_shows) := ⟨rfl, rfl, rfl, by decide +kernel, rfl, by decide +kernel, by decide +kernel⟩
abbrev s_claimed_behind : Stmt := top 21
theorem sc_claimed_behind : FnScope ["boxes", "depth", "claims", "depths", "new", "box", "look", "deep", "side"] ["boxes", "depth", "claims", "depths"] (defScope s_claimed_behind) := ⟨rfl, rfl, rfl, by decide +kernel, rfl, by decide +kernel, by decide +kernel⟩
abbrev s_has_worlds : Stmt := top 22
theorem sc_has_worlds : FnScope ["row", "total", "lows", "highs", "_"] ["row", "total"] (defScope s_has_worlds) := ⟨rfl, rfl, rfl, by decide +kernel, rfl, by decide +kernel, by decide +kernel⟩
abbrev s_greatest_claims : Stmt := top 23
theorem sc_greatest_claims : FnScope ["rows", "claims", "lows", "highs", "depth"] ["rows"] (defScope s_greatest_claims) := ⟨rfl, rfl, rfl, by decide +kernel, rfl, by decide +kernel, by decide +kernel⟩
abbrev s_is_claimed : Stmt := top 24
theorem sc_is_claimed : FnScope ["lows", "highs", "depth", "claims"] ["lows", "highs", "depth", "claims"] (defScope s_is_claimed) := ⟨rfl, rfl, rfl, by decide +kernel, rfl, by decide +kernel, by decide +kernel⟩
abbrev s_is_shown : Stmt := top 25
theorem sc_is_shown : FnScope ["row", "total", "claims", "lows", "highs", "depth", "box", "look"] ["row", "total", "claims"] (defScope s_is_shown) := ⟨rfl, rfl, rfl, by decide +kernel, rfl, by decide +kernel, by decide +kernel⟩
abbrev s_leaves : Stmt := top 26
theorem sc_leaves : FnScope ["box", "look", "depth", "claims", "lows", "highs", "_"] ["box", "look", "depth", "claims"] (defScope s_leaves) := ⟨rfl, rfl, rfl, by decide +kernel, rfl, by decide +kernel, by decide +kernel⟩
abbrev s_least : Stmt := top 28
theorem sc_least : FnScope ["box", "whole", "depths"] ["box"] (defScope s_least) := ⟨rfl, rfl, rfl, by decide +kernel, rfl, by decide +kernel, by decide +kernel⟩
abbrev s_plan : Stmt := top 29
theorem sc_plan : FnScope ["box", "depths", "look", "k", "many", "yes", "no"] ["box", "depths"] (defScope s_plan) := ⟨rfl, rfl, rfl, by decide +kernel, rfl, by decide +kernel, by decide +kernel⟩
abbrev s_l_start : Stmt := top 31
theorem sc_l_start : FnScope ["_law_script", "_law_mixed", "_law_cell"] ["_law_script"] (defScope s_l_start) := ⟨rfl, rfl, rfl, by decide +kernel, rfl, by decide +kernel, by decide +kernel⟩
abbrev s_l_drawn : Stmt := top 32
theorem sc_l_drawn : FnScope ["_law_state", "_law_many", "_law_found", "_law_cell"] ["_law_state", "_law_many"] (defScope s_l_drawn) := ⟨rfl, rfl, rfl, by decide +kernel, rfl, by decide +kernel, by decide +kernel⟩
abbrev s_l_same : Stmt := top 33
theorem sc_l_same : FnScope ["_law_found", "_law_due", "_law_k"] ["_law_found", "_law_due"] (defScope s_l_same) := ⟨rfl, rfl, rfl, by decide +kernel, rfl, by decide +kernel, by decide +kernel⟩
abbrev s_l_box : Stmt := top 34
theorem sc_l_box : FnScope ["_law_state", "_law_many", "_law_wide", "_law_lows", "_law_highs", "_law_k", "_law_low", "_law_some", "_law_high", "_law_total"] ["_law_state"] (defScope s_l_box) := ⟨rfl, rfl, rfl, by decide +kernel, rfl, by decide +kernel, by decide +kernel⟩
abbrev s_l_of : Stmt := top 35
theorem sc_l_of : FnScope ["_law_lows", "_law_highs", "_law_total", "_law_found", "_law_low", "_law_high", "_law_world"] ["_law_lows", "_law_highs", "_law_total"] (defScope s_l_of) := ⟨rfl, rfl, rfl, by decide +kernel, rfl, by decide +kernel, by decide +kernel⟩
abbrev s_l_longer : Stmt := top 36
theorem sc_l_longer : FnScope ["_law_found", "_law_low", "_law_high", "_law_longer_here", "_law_world", "_law_many"] ["_law_found", "_law_low", "_law_high"] (defScope s_l_longer) := ⟨rfl, rfl, rfl, by decide +kernel, rfl, by decide +kernel, by decide +kernel⟩
abbrev s_l_tight : Stmt := top 37
theorem sc_l_tight : FnScope ["_law_every", "_law_lows", "_law_world", "_law_k"] ["_law_every"] (defScope s_l_tight) := ⟨rfl, rfl, rfl, by decide +kernel, rfl, by decide +kernel, by decide +kernel⟩
abbrev s_l_narrow : Stmt := top 38
theorem sc_l_narrow : FnScope ["_law_lows", "_law_highs", "_law_total", "_law_low_ends", "_law_k", "_law_high_ends"] ["_law_lows", "_law_highs", "_law_total"] (defScope s_l_narrow) := ⟨rfl, rfl, rfl, by decide +kernel, rfl, by decide +kernel, by decide +kernel⟩
abbrev s_l_is_box : Stmt := top 39
theorem sc_l_is_box : FnScope ["_law_lows", "_law_highs", "_law_k"] ["_law_lows", "_law_highs"] (defScope s_l_is_box) := ⟨rfl, rfl, rfl, by decide +kernel, rfl, by decide +kernel, by decide +kernel⟩
abbrev s_l_claimed : Stmt := top 40
theorem sc_l_claimed : FnScope ["_law_rows", "_law_sides", "_law_row"] ["_law_rows", "_law_sides"] (defScope s_l_claimed) := ⟨rfl, rfl, rfl, by decide +kernel, rfl, by decide +kernel, by decide +kernel⟩
abbrev s_l_stands : Stmt := top 41
theorem sc_l_stands : FnScope ["_law_rows", "_law_row", "_law_total", "_law_lows", "_law_highs", "_law_depth", "_law_k", "_law_many", "_law_yes", "_law_no"] ["_law_rows", "_law_row", "_law_total"] (defScope s_l_stands) := ⟨rfl, rfl, rfl, by decide +kernel, rfl, by decide +kernel, by decide +kernel⟩
abbrev s_l_shown : Stmt := top 42
theorem sc_l_shown : FnScope ["_law_box_here", "_law_depth", "_law_rows", "_law_lows", "_law_highs", "_law_claim", "_law_sides", "_law_claims", "_law_row"] ["_law_box_here", "_law_depth", "_law_rows"] (defScope s_l_shown) := ⟨rfl, rfl, rfl, by decide +kernel, rfl, by decide +kernel, by decide +kernel⟩
abbrev s_l_are_rows : Stmt := top 43
theorem sc_l_are_rows : FnScope ["_law_rows", "_law_row", "_law_number"] ["_law_rows"] (defScope s_l_are_rows) := ⟨rfl, rfl, rfl, by decide +kernel, rfl, by decide +kernel, by decide +kernel⟩
abbrev s_law : Stmt := top 44
theorem sc_law : FnScope ["_law_script", "_law_state", "_law_turn", "_law_box_here", "_law_depth", "_law_again", "_law_rows", "_law_handed", "_law_told", "_law_many"] ["_law_script"] (defScope s_law) := ⟨rfl, rfl, rfl, by decide +kernel, rfl, by decide +kernel, by decide +kernel⟩
section
variable {X : Cx}
theorem pe_gs {x z : Str} {pos : Pos} (hg : Gl X x) (h : ∃ t, X.mg x = some (.str z t)) (hd : (x == ("__debug__" : Str)) = false := by decide) : PE X (.Name x pos) (tC (.str z)) := by
  obtain ⟨t, e⟩ := h
  exact pe_glob hg e ⟨t, rfl⟩ hd
theorem pe_gi {x : Str} {z : Int} {pos : Pos} (hg : Gl X x) (h : ∃ t, X.mg x = some (.int z t)) (hd : (x == ("__debug__" : Str)) = false := by decide) : PE X (.Name x pos) (tC (.int z)) := by
  obtain ⟨t, e⟩ := h
  exact pe_glob hg e ⟨t, rfl⟩ hd
end
structure Ad where
  C : Addr
  GapError : Addr
  NoWorld : Addr
  NoBox : Addr
  narrowed : Addr
  check_total : Addr
  tight : Addr
  looks_in : Addr
  parted : Addr
  tightened : Addr
  check_box : Addr
  Depths_init : Addr
  Depths_depth_of : Addr
  Depths_best_look : Addr
  Depths__worked_out : Addr
  Depths__rated_looks : Addr
  Depths__left_behind : Addr
  shape : Addr
  paper : Addr
  shows : Addr
  claimed_behind : Addr
  has_worlds : Addr
  greatest_claims : Addr
  is_claimed : Addr
  is_shown : Addr
  leaves : Addr
  least : Addr
  plan : Addr
  l_start : Addr
  l_drawn : Addr
  l_same : Addr
  l_box : Addr
  l_of : Addr
  l_longer : Addr
  l_narrow : Addr
  l_is_box : Addr
  l_claimed : Addr
  l_stands : Addr
  l_shown : Addr
  l_are_rows : Addr
  law : Addr
structure Fd where
  narrowed : FuncData
  check_total : FuncData
  tight : FuncData
  looks_in : FuncData
  parted : FuncData
  tightened : FuncData
  check_box : FuncData
  Depths_init : FuncData
  Depths_depth_of : FuncData
  Depths_best_look : FuncData
  Depths__worked_out : FuncData
  Depths__rated_looks : FuncData
  Depths__left_behind : FuncData
  shape : FuncData
  paper : FuncData
  shows : FuncData
  claimed_behind : FuncData
  has_worlds : FuncData
  greatest_claims : FuncData
  is_claimed : FuncData
  is_shown : FuncData
  leaves : FuncData
  least : FuncData
  plan : FuncData
  l_start : FuncData
  l_drawn : FuncData
  l_same : FuncData
  l_box : FuncData
  l_of : FuncData
  l_longer : FuncData
  l_narrow : FuncData
  l_is_box : FuncData
  l_claimed : FuncData
  l_stands : FuncData
  l_shown : FuncData
  l_are_rows : FuncData
  law : FuncData
structure XF (K : PySem.W.Frag) (mg : Str → Option Value) (nm : Str) (C : Addr) : Prop where
  x : PySem.W.excIn K C [.type "ValueError", .type "Exception", .type "BaseException", .type "object"] "ValueError.__new__" = true
  g : mg nm = some (.ref C)
  k : PySem.W.keepIn K (.ref C) = true
  b : PySem.W.subIn K (.ref C) (.type "BaseException") = some true
  t : PySem.W.typeIn K (.ref C) = some (.type "type")
structure Txt (K : PySem.W.Frag) (mg : Str → Option Value) (a : Ad) (fd : Fd) : Prop where
  cl : Cls K a.C
  na_known : NoAttr K a.C "_known"
  g_Depths : mg "Depths" = some (.ref a.C)
  mkO : Mk K a.C a.Depths_init
  n_ValueError : mg "ValueError" = none
  n_all : mg "all" = none
  n_any : mg "any" = none
  n_bool : mg "bool" = none
  n_int : mg "int" = none
  n_isinstance : mg "isinstance" = none
  n_len : mg "len" = none
  n_list : mg "list" = none
  n_max : mg "max" = none
  n_min : mg "min" = none
  n_range : mg "range" = none
  n_sorted : mg "sorted" = none
  n_str : mg "str" = none
  n_sum : mg "sum" = none
  n_tuple : mg "tuple" = none
  n_zip : mg "zip" = none
  g_MOST_PLACES : ∃ t, mg "MOST_PLACES" = some (.int 3 t)
  g_GREATEST_HIGH : ∃ t, mg "GREATEST_HIGH" = some (.int 7 t)
  x_GapError : XF K mg "GapError" a.GapError
  x_NoWorld : XF K mg "NoWorld" a.NoWorld
  x_NoBox : XF K mg "NoBox" a.NoBox
  F_narrowed : Fun K "narrowed" "narrowed" s_narrowed a.narrowed fd.narrowed
  b_narrowed : Binds K fd.narrowed ["lows", "highs", "total"] []
  g_narrowed : mg "narrowed" = some (.ref a.narrowed)
  F_check_total : Fun K "_check_total" "_check_total" s_check_total a.check_total fd.check_total
  b_check_total : Binds K fd.check_total ["lows", "highs", "total"] []
  g_check_total : mg "_check_total" = some (.ref a.check_total)
  F_tight : Fun K "tight" "tight" s_tight a.tight fd.tight
  b_tight : Binds K fd.tight ["box"] []
  g_tight : mg "tight" = some (.ref a.tight)
  F_looks_in : Fun K "looks_in" "looks_in" s_looks_in a.looks_in fd.looks_in
  b_looks_in : Binds K fd.looks_in ["box"] []
  g_looks_in : mg "looks_in" = some (.ref a.looks_in)
  F_parted : Fun K "parted" "parted" s_parted a.parted fd.parted
  b_parted : Binds K fd.parted ["box", "look"] []
  g_parted : mg "parted" = some (.ref a.parted)
  F_tightened : Fun K "_tightened" "_tightened" s_tightened a.tightened fd.tightened
  b_tightened : Binds K fd.tightened ["lows", "highs", "total"] []
  g_tightened : mg "_tightened" = some (.ref a.tightened)
  F_check_box : Fun K "_check_box" "_check_box" s_check_box a.check_box fd.check_box
  b_check_box : Binds K fd.check_box ["box"] []
  g_check_box : mg "_check_box" = some (.ref a.check_box)
  F_Depths_init : Fun K "__init__" "Depths.__init__" s_Depths_init a.Depths_init fd.Depths_init
  b_Depths_init : Binds K fd.Depths_init ["self"] []
  F_Depths_depth_of : Fun K "depth_of" "Depths.depth_of" s_Depths_depth_of a.Depths_depth_of fd.Depths_depth_of
  b_Depths_depth_of : Binds K fd.Depths_depth_of ["self", "box"] []
  m_Depths_depth_of : Meth K a.C "depth_of" a.Depths_depth_of
  F_Depths_best_look : Fun K "best_look" "Depths.best_look" s_Depths_best_look a.Depths_best_look fd.Depths_best_look
  b_Depths_best_look : Binds K fd.Depths_best_look ["self", "box"] []
  m_Depths_best_look : Meth K a.C "best_look" a.Depths_best_look
  F_Depths__worked_out : Fun K "_worked_out" "Depths._worked_out" s_Depths__worked_out a.Depths__worked_out fd.Depths__worked_out
  b_Depths__worked_out : Binds K fd.Depths__worked_out ["self", "box"] []
  m_Depths__worked_out : Meth K a.C "_worked_out" a.Depths__worked_out
  F_Depths__rated_looks : Fun K "_rated_looks" "Depths._rated_looks" s_Depths__rated_looks a.Depths__rated_looks fd.Depths__rated_looks
  b_Depths__rated_looks : Binds K fd.Depths__rated_looks ["self", "box"] []
  m_Depths__rated_looks : Meth K a.C "_rated_looks" a.Depths__rated_looks
  F_Depths__left_behind : Fun K "_left_behind" "Depths._left_behind" s_Depths__left_behind a.Depths__left_behind fd.Depths__left_behind
  b_Depths__left_behind : Binds K fd.Depths__left_behind ["self", "box", "look"] []
  m_Depths__left_behind : Meth K a.C "_left_behind" a.Depths__left_behind
  F_shape : Fun K "_shape" "_shape" s_shape a.shape fd.shape
  b_shape : Binds K fd.shape ["box"] []
  g_shape : mg "_shape" = some (.ref a.shape)
  F_paper : Fun K "paper" "paper" s_paper a.paper fd.paper
  b_paper : Binds K fd.paper ["box"] []
  g_paper : mg "paper" = some (.ref a.paper)
  F_shows : Fun K "shows" "shows" s_shows a.shows fd.shows
  b_shows : Binds K fd.shows ["box", "depth", "rows"] []
  g_shows : mg "shows" = some (.ref a.shows)
  F_claimed_behind : Fun K "_claimed_behind" "_claimed_behind" s_claimed_behind a.claimed_behind fd.claimed_behind
  b_claimed_behind : Binds K fd.claimed_behind ["boxes", "depth", "claims", "depths"] []
  g_claimed_behind : mg "_claimed_behind" = some (.ref a.claimed_behind)
  F_has_worlds : Fun K "_has_worlds" "_has_worlds" s_has_worlds a.has_worlds fd.has_worlds
  b_has_worlds : Binds K fd.has_worlds ["row", "total"] []
  g_has_worlds : mg "_has_worlds" = some (.ref a.has_worlds)
  F_greatest_claims : Fun K "_greatest_claims" "_greatest_claims" s_greatest_claims a.greatest_claims fd.greatest_claims
  b_greatest_claims : Binds K fd.greatest_claims ["rows"] []
  g_greatest_claims : mg "_greatest_claims" = some (.ref a.greatest_claims)
  F_is_claimed : Fun K "_is_claimed" "_is_claimed" s_is_claimed a.is_claimed fd.is_claimed
  b_is_claimed : Binds K fd.is_claimed ["lows", "highs", "depth", "claims"] []
  g_is_claimed : mg "_is_claimed" = some (.ref a.is_claimed)
  F_is_shown : Fun K "_is_shown" "_is_shown" s_is_shown a.is_shown fd.is_shown
  b_is_shown : Binds K fd.is_shown ["row", "total", "claims"] []
  g_is_shown : mg "_is_shown" = some (.ref a.is_shown)
  F_leaves : Fun K "_leaves" "_leaves" s_leaves a.leaves fd.leaves
  b_leaves : Binds K fd.leaves ["box", "look", "depth", "claims"] []
  g_leaves : mg "_leaves" = some (.ref a.leaves)
  F_least : Fun K "least" "least" s_least a.least fd.least
  b_least : Binds K fd.least ["box"] []
  g_least : mg "least" = some (.ref a.least)
  F_plan : Fun K "_plan" "_plan" s_plan a.plan fd.plan
  b_plan : Binds K fd.plan ["box", "depths"] []
  g_plan : mg "_plan" = some (.ref a.plan)
  F_l_start : Fun K "_law_start" "_law_start" s_l_start a.l_start fd.l_start
  b_l_start : Binds K fd.l_start ["_law_script"] []
  g_l_start : mg "_law_start" = some (.ref a.l_start)
  F_l_drawn : Fun K "_law_drawn" "_law_drawn" s_l_drawn a.l_drawn fd.l_drawn
  b_l_drawn : Binds K fd.l_drawn ["_law_state", "_law_many"] []
  g_l_drawn : mg "_law_drawn" = some (.ref a.l_drawn)
  F_l_same : Fun K "_law_same" "_law_same" s_l_same a.l_same fd.l_same
  b_l_same : Binds K fd.l_same ["_law_found", "_law_due"] []
  g_l_same : mg "_law_same" = some (.ref a.l_same)
  F_l_box : Fun K "_law_box" "_law_box" s_l_box a.l_box fd.l_box
  b_l_box : Binds K fd.l_box ["_law_state"] []
  g_l_box : mg "_law_box" = some (.ref a.l_box)
  F_l_of : Fun K "_law_of" "_law_of" s_l_of a.l_of fd.l_of
  b_l_of : Binds K fd.l_of ["_law_lows", "_law_highs", "_law_total"] []
  g_l_of : mg "_law_of" = some (.ref a.l_of)
  F_l_longer : Fun K "_law_longer" "_law_longer" s_l_longer a.l_longer fd.l_longer
  b_l_longer : Binds K fd.l_longer ["_law_found", "_law_low", "_law_high"] []
  g_l_longer : mg "_law_longer" = some (.ref a.l_longer)
  F_l_narrow : Fun K "_law_narrow" "_law_narrow" s_l_narrow a.l_narrow fd.l_narrow
  b_l_narrow : Binds K fd.l_narrow ["_law_lows", "_law_highs", "_law_total"] []
  g_l_narrow : mg "_law_narrow" = some (.ref a.l_narrow)
  F_l_is_box : Fun K "_law_is_box" "_law_is_box" s_l_is_box a.l_is_box fd.l_is_box
  b_l_is_box : Binds K fd.l_is_box ["_law_lows", "_law_highs"] []
  g_l_is_box : mg "_law_is_box" = some (.ref a.l_is_box)
  F_l_claimed : Fun K "_law_claimed" "_law_claimed" s_l_claimed a.l_claimed fd.l_claimed
  b_l_claimed : Binds K fd.l_claimed ["_law_rows", "_law_sides"] []
  g_l_claimed : mg "_law_claimed" = some (.ref a.l_claimed)
  F_l_stands : Fun K "_law_stands" "_law_stands" s_l_stands a.l_stands fd.l_stands
  b_l_stands : Binds K fd.l_stands ["_law_rows", "_law_row", "_law_total"] []
  g_l_stands : mg "_law_stands" = some (.ref a.l_stands)
  F_l_shown : Fun K "_law_shown" "_law_shown" s_l_shown a.l_shown fd.l_shown
  b_l_shown : Binds K fd.l_shown ["_law_box_here", "_law_depth", "_law_rows"] []
  g_l_shown : mg "_law_shown" = some (.ref a.l_shown)
  F_l_are_rows : Fun K "_law_are_rows" "_law_are_rows" s_l_are_rows a.l_are_rows fd.l_are_rows
  b_l_are_rows : Binds K fd.l_are_rows ["_law_rows"] []
  g_l_are_rows : mg "_law_are_rows" = some (.ref a.l_are_rows)
  F_law : Fun K "law" "law" s_law a.law fd.law
  b_law : Binds K fd.law ["_law_script"] []
  g_law : mg "law" = some (.ref a.law)
section
variable {P : Program} {w : World} {K : PySem.W.Frag} {mg : Str → Option Value} {base : Heap} {N : List Str} {q : Str} {sc : Scope} {f : Addr} {cdv : Value} {A : Around} {outer : List Env} {s : Shared} {H : Hp} {E : XK}
theorem takesU : Takes (cxOf (L2.CX P w) P w K mg base N q sc f cdv A outer s H E) (fun cls d _ H' => E cls d H') := takes_of rfl rfl rfl rfl
theorem passU : Passes (L2.CX P w) (cxOf (L2.CX P w) P w K mg base N q sc f cdv A outer s H E) E := passes_call takesU (fun _ _ _ _ h => h)
theorem passesU : PassesOwn (model P w) (cxOf (L2.CX P w) P w K mg base N q sc f cdv A outer s H E).A (cxOf (L2.CX P w) P w K mg base N q sc f cdv A outer s H E).env (cxOf (L2.CX P w) P w K mg base N q sc f cdv A outer s H E).xe := passes_of rfl
end
end Nu
namespace Nu
open PySem PySem.Spec PyProof.Rows L2
section
variable {ts : List TE} {acc : Str} {σ : L2.St} {H : Hp} {Q : Str → Hp → Prop}
theorem js_s {z : Str} {b : Nat} (ha : acc.length ≤ b) (hl : z.length ≤ 100) (hb : b ≤ 10000) (k : ∀ acc' : Str, acc'.length ≤ b + 100 → tJs ts acc' σ H Q) : tJs (tC (.str z) :: ts) acc σ H Q := by
  have e : (acc ++ z).length ≤ b + 100 := by
    rw [Str.length_append]
    omega
  exact ⟨z, rfl, Nat.le_trans e (by rw [sizeLine_eq]; omega), k _ e⟩
theorem js_f {i : Nat} {n : Int} {b : Nat} (hs : σ[i]? = some (some (.int n))) (hn : n.natAbs.log2 < 1920) (ha : acc.length ≤ b) (hb : b ≤ 10000) (k : ∀ acc' : Str, acc'.length ≤ b + 1921 → tJs ts acc' σ H Q) : tJs (tFmt (tVar i) :: ts) acc σ H Q := by
  have h1 : (Str.ofString (toString n)).length ≤ 1921 := PyProof.Rows.int_text_len_1921 hn
  have e : (acc ++ Str.ofString (toString n)).length ≤ b + 1921 := by
    rw [Str.length_append]
    omega
  exact ⟨_, hs, .inr ⟨n, rfl, hn, _, rfl, Nat.le_trans e (by rw [sizeLine_eq]; omega), k _ e⟩⟩
end
def IntOk (n : Int) : Prop := n.natAbs.log2 < 1920
theorem map_int_at {ns : List Int} {j : Nat} {x : V} (h : (ns.map V.int)[j]? = some x) : ∃ n, ns[j]? = some n ∧ x = V.int n := by
  rw [List.getElem?_map] at h
  cases e : ns[j]? with
  | none => rw [e] at h; cases h
  | some y => rw [e] at h; exact ⟨y, rfl, (Option.some.inj h).symm⟩
theorem wipe1 (σ : L2.St) (i : Nat) (v : Option V) : wipe ((wipe σ [i]).set i v) [i] = wipe σ [i] := by
  show ((σ.set i none).set i v).set i none = σ.set i none
  rw [List.set_set, List.set_set]
theorem gName_go {i : Nat} {x : V} {σ : L2.St} {H : Hp} {R : L2.St → Hp → Prop} (h : R (σ.set i (some x)) H) : gName i x σ H R := h
theorem seq_go {t u : TS} {D : Ends} {σ : L2.St} {H : Hp} (h : t { D with nx := u D } σ H) : tSeq t u D σ H := h
theorem next_go {D : Ends} {σ : L2.St} {H : Hp} (h : D.nx σ H) : tNext D σ H := h
theorem ifS_two {tc : TT} {tt tu : TS} {D : Ends} {σ : L2.St} {H : Hp} (R1 R0 : Hp → Prop) (hc : ∀ Q : Bool → Hp → Prop, (∀ H1, R1 H1 → Q true H1) → (∀ H1, R0 H1 → Q false H1) → tc σ H Q) (ht : ∀ H1, R1 H1 → tt D σ H1) (hf : ∀ H1, R0 H1 → tu D σ H1) : tIfS tc tt tu D σ H :=
  hc _ (fun H1 h => iteT (ht H1 h)) (fun H1 h => iteF (hf H1 h))
def refsV : V → List Addr
  | .ref r => [r]
  | _ => []
theorem mem_refs {v : V} {c : Addr} (h : c ∈ refsV v) : v = .ref c := by
  cases v with
  | ref r => rw [List.mem_singleton.mp h]
  | _ => cases h
theorem Keep.mono {F G : List Addr} {H H' : Hp} (k : Keep F H H') (h : ∀ c ∈ F, c ∈ G) : Keep G H H' := fun c u e n => k c u e fun z => n (h c z)
theorem ifS_join {tc : TT} {tt : TS} {D : Ends} {σ : L2.St} {H : Hp} (P : L2.St → Hp → Prop) (h : ∀ nx : L2.St → Hp → Prop, (∀ σ' H', P σ' H' → nx σ' H') → tIfS tc tt tNext { D with nx := nx } σ H) (hn : ∀ σ' H', P σ' H' → D.nx σ' H') : tIfS tc tt tNext D σ H := h D.nx hn
theorem log_nat {d : Nat} (h : d ≤ 1000) : (d : Int).natAbs.log2 < 1920 := by
  have e : (d : Int).natAbs = d := Int.natAbs_natCast d
  rw [e]
  have h1 : d.log2 < 10 := by
    by_cases c : d = 0
    · subst c
      decide
    · exact (Nat.log2_lt c).mpr (by omega)
  omega
theorem take_snoc {α : Type} {l : List α} {i : Nat} {x : α} (h : l[i]? = some x) : l.take (i + 1) = l.take i ++ [x] := by
  rw [List.take_add_one, h]
  rfl
theorem Keep.free {F : List Addr} {H H' : Hp} (k : Keep F H H') {t : Addr} (h : H' t = none) (hn : t ∉ F) : H t = none := by
  cases e : H t with
  | none => rfl
  | some u =>
    have := k t u e hn
    rw [h] at this
    cases this
theorem ixN_nat {n i : Nat} (h : i < n) : ixN n (i : Int) = some i := by
  unfold ixN
  rw [if_pos (by omega), if_pos (by omega)]
  rfl
def dV : V → PyData
  | .bl b => .bool b
  | .int i => .int i
  | .str x => .str x
  | _ => .none
def flS : V → Bool
  | .non => true
  | .bl _ => true
  | .int _ => true
  | .str x => PyData.canLay0 (.str x)
  | _ => false
theorem dp_flat {K : PySem.W.Frag} {H : Hp} {x : V} (h : flS x = true) : Dp K H x (dV x) := by
  cases x with
  | non => exact .non
  | bl b => exact .bl b
  | int i => exact .int i
  | str z => exact .str z
  | byt _ => cases h
  | flt _ => cases h
  | ref _ => cases h
  | ty _ => cases h
theorem dp_flats {K : PySem.W.Frag} {H : Hp} : ∀ (xs : List V), (∀ x ∈ xs, flS x = true) → DpAll K H xs (xs.map dV)
  | [], _ => .nil
  | x :: r, h => .cons (dp_flat (h x List.mem_cons_self)) (dp_flats r fun y hy => h y (List.mem_cons_of_mem _ hy))
theorem flat_lay : ∀ (xs : List V), (∀ x ∈ xs, flS x = true) → PyData.canLayAll0 (xs.map dV) = true
  | [], _ => by simp [PyData.canLayAll0]
  | x :: r, h => by
    have h1 := flat_lay r fun y hy => h y (List.mem_cons_of_mem _ hy)
    have h2 := h x List.mem_cons_self
    rw [List.map_cons]
    unfold PyData.canLayAll0
    rw [h1, Bool.and_true]
    cases x <;> first | rfl | exact h2 | cases h2 | (simp only [dV, PyData.canLay0])
theorem flat_depth : ∀ (xs : List V), PyData.depthAll (xs.map dV) = 0
  | [] => by simp [PyData.depthAll]
  | x :: r => by
    have h1 := flat_depth r
    have h2 : PyData.depth (dV x) = 0 := by cases x <;> simp [dV, PyData.depth]
    rw [List.map_cons]
    unfold PyData.depthAll
    rw [h1, h2]
    rfl
theorem flat_shaped {xs : List V} (h : ∀ x ∈ xs, flS x = true) : SeqAt.shaped (.list (xs.map dV)) = true := by
  have e : PyData.depth (.list (xs.map dV)) = 1 := by
    simp only [PyData.depth, flat_depth]
  have e2 : PyData.canLay0 (.list (xs.map dV)) = true := by
    simp only [PyData.canLay0]
    exact flat_lay xs h
  unfold SeqAt.shaped
  rw [e, e2]
  rfl
theorem eq_nil {K : PySem.W.Frag} {H : Hp} {p e : Addr} {xs : List V} {Q : VK} (hp : H p = some (.lst xs)) (he : H e = some (.lst [])) (hf : ∀ x ∈ xs, flS x = true) (q : Q (.bl xs.isEmpty) H) : rEqD K (.ref p) (.ref e) H Q := by
  refine ⟨.list (xs.map dV), .list [], .lst (SqL.of hp) (dp_flats xs hf), .lst (SqL.of he) .nil, flat_shaped hf, by decide, ?_⟩
  cases xs with
  | nil => exact q
  | cons x r => exact q
theorem ne_nil {K : PySem.W.Frag} {H : Hp} {p e : Addr} {xs : List V} {Q : VK} (hp : H p = some (.lst xs)) (he : H e = some (.lst [])) (hf : ∀ x ∈ xs, flS x = true) (q : Q (.bl (!xs.isEmpty)) H) : rNeD K (.ref p) (.ref e) H Q := by
  refine ⟨.list (xs.map dV), .list [], .lst (SqL.of hp) (dp_flats xs hf), .lst (SqL.of he) .nil, flat_shaped hf, by decide, ?_⟩
  cases xs with
  | nil => exact q
  | cons x r => exact q
theorem at_two {v : Int} (h0 : 0 ≤ v) (h1 : v < 2) (a b : V) : atI [a, b] v = some (if v = 0 then a else b) := by
  have : v = 0 ∨ v = 1 := by omega
  rcases this with rfl | rfl
  · rfl
  · rfl
theorem at_three {v : Int} (h0 : 0 ≤ v) (h1 : v < 3) (a b c : V) : atI [a, b, c] v = some (if v = 0 then a else if v = 1 then b else c) := by
  have : v = 0 ∨ v = 1 ∨ v = 2 := by omega
  rcases this with rfl | rfl | rfl
  · rfl
  · rfl
  · rfl
theorem at_four {v : Int} (h0 : 0 ≤ v) (h1 : v < 4) (a b c d : Str) : ∃ x, atI [V.str a, V.str b, V.str c, V.str d] v = some (.str x) ∧ (x = a ∨ x = b ∨ x = c ∨ x = d) := by
  have : v = 0 ∨ v = 1 ∨ v = 2 ∨ v = 3 := by omega
  rcases this with rfl | rfl | rfl | rfl
  · exact ⟨a, rfl, .inl rfl⟩
  · exact ⟨b, rfl, .inr (.inl rfl)⟩
  · exact ⟨c, rfl, .inr (.inr (.inl rfl))⟩
  · exact ⟨d, rfl, .inr (.inr (.inr rfl))⟩
theorem log59 {x : Int} (h0 : 0 - 10 ^ 59 ≤ x) (h1 : x < 10 ^ 59 + 1000) : x.natAbs.log2 < 1920 := by
  by_cases c : x.natAbs = 0
  · rw [c]
    decide
  · have h : x.natAbs < 2 ^ 1920 := by
      have e1 : (10 : Nat) ^ 59 + 1000 < 2 ^ 1920 := by decide +kernel
      have e2 : ((10 : Nat) ^ 59 : Int) = 10 ^ 59 := by norm_cast
      omega
    exact (Nat.log2_lt c).mpr h
theorem at_three_i {v : Int} (h0 : 0 ≤ v) (h1 : v < 3) : ∃ x : Int, atI [V.int 1, V.int 200, V.int ((10 : Int) ^ (59 : Int).toNat)] v = some (.int x) ∧ 1 ≤ x ∧ x ≤ 10 ^ 59 := by
  have : v = 0 ∨ v = 1 ∨ v = 2 := by omega
  rcases this with rfl | rfl | rfl
  · exact ⟨1, rfl, by decide, by decide +kernel⟩
  · exact ⟨200, rfl, by decide, by decide +kernel⟩
  · exact ⟨10 ^ 59, rfl, by decide +kernel, Int.le_refl _⟩
theorem intOk59 {x : Int} (h0 : 0 - 1 - 10 ^ 59 ≤ x) (h1 : x < 10 ^ 59 + 2000) : IntOk x := by
  unfold IntOk
  by_cases c : x.natAbs = 0
  · rw [c]
    decide
  · have h : x.natAbs < 2 ^ 1920 := by
      have e1 : (10 : Nat) ^ 59 + 2000 < 2 ^ 1920 := by decide +kernel
      have e2 : ((10 : Nat) ^ 59 : Int) = 10 ^ 59 := by norm_cast
      omega
    exact (Nat.log2_lt c).mpr h
theorem intOkS {x : Int} (h0 : 0 ≤ x) (h1 : x ≤ 1000) : IntOk x := by
  obtain ⟨n, rfl⟩ := Int.eq_ofNat_of_zero_le h0
  exact log_nat (by omega)
theorem deqT {z y : Str} (h : z = y) : decide (V.str z = V.str y) = true := decide_eq_true (by rw [h])
theorem deqF {z y : Str} (h : ¬ z = y) : decide (V.str z = V.str y) = false := decide_eq_false fun q => h (by injection q)
theorem dneT {z y : Str} (h : ¬ z = y) : (!decide (V.str z = V.str y)) = true := by rw [deqF h]; rfl
theorem dneF {z y : Str} (h : z = y) : (!decide (V.str z = V.str y)) = false := by rw [deqT h]; rfl
theorem one_le : ∀ v : V, [v].length ≤ sizeLine := fun v => by
  rw [sizeLine_eq]
  exact (by decide : 1 ≤ 16777216)
theorem deqI {x y : Int} (h : x = y) : decide (V.int x = V.int y) = true := decide_eq_true (by rw [h])
theorem dneI {x y : Int} (h : ¬ x = y) : decide (V.int x = V.int y) = false := decide_eq_false fun z => h (by injection z)
theorem ifE_join {t : TT} {ta tb : TE} {σ : L2.St} {H : Hp} {Q : VK} (P : V → Hp → Prop) (h : ∀ Q' : VK, (∀ v H', P v H' → Q' v H') → tIf t ta tb σ H Q') (hn : ∀ v H', P v H' → Q v H') : tIf t ta tb σ H Q := h Q hn
def LI (f : Nat → Int) (n : Nat) : List Int := (List.range n).map f
theorem LI_len (f : Nat → Int) (n : Nat) : (LI f n).length = n := by
  unfold LI
  rw [List.length_map, List.length_range]
theorem LI_at (f : Nat → Int) {n i : Nat} (h : i < n) : (LI f n)[i]? = some (f i) := by
  unfold LI
  rw [List.getElem?_map, List.getElem?_range h]
  rfl
theorem LI_succ (f : Nat → Int) (n : Nat) : LI f (n + 1) = LI f n ++ [f n] := by
  unfold LI
  rw [List.range_succ, List.map_append]
  rfl
theorem LI_congr {f g : Nat → Int} {n : Nat} (h : ∀ i, i < n → f i = g i) : LI f n = LI g n := by
  unfold LI
  exact List.map_congr_left fun i hi => h i (List.mem_range.mp hi)
theorem LI_take (f : Nat → Int) {n j : Nat} (h : j ≤ n) : (LI f n).take j = LI f j := by
  unfold LI
  rw [← List.map_take, List.take_range, Nat.min_eq_left h]
theorem mem_LI {f : Nat → Int} {n : Nat} {x : Int} : x ∈ LI f n ↔ ∃ i, i < n ∧ f i = x := by
  unfold LI
  rw [List.mem_map]
  exact ⟨fun ⟨i, h, e⟩ => ⟨i, List.mem_range.mp h, e⟩, fun ⟨i, h, e⟩ => ⟨i, List.mem_range.mpr h, e⟩⟩
def sumF (f : Nat → Int) : Nat → Int
  | 0 => 0
  | n + 1 => sumF f n + f n
theorem sum_snoc : ∀ (l : List Int) (x : Int), (l ++ [x]).sum = l.sum + x
  | [], x => by simp
  | y :: r, x => by
    rw [List.cons_append, List.sum_cons, sum_snoc r x, List.sum_cons]
    omega
theorem LI_sum (f : Nat → Int) : ∀ n : Nat, (LI f n).sum = sumF f n
  | 0 => rfl
  | n + 1 => by
    rw [LI_succ, sum_snoc, LI_sum f n]
    rfl
theorem sumF_congr {f g : Nat → Int} : ∀ {n : Nat}, (∀ i, i < n → f i = g i) → sumF f n = sumF g n
  | 0, _ => rfl
  | n + 1, h => by
    show sumF f n + f n = sumF g n + g n
    rw [sumF_congr fun i hi => h i (by omega), h n (by omega)]
theorem LI_set (f : Nat → Int) {n k : Nat} (v : Int) : (LI f n).set k v = LI (fun i => if i = k then v else f i) n := by
  refine List.ext_getElem? fun i => ?_
  by_cases hi : i < n
  · rw [LI_at _ hi]
    by_cases c : k = i
    · subst c
      rw [List.getElem?_set_self (by rw [LI_len]; exact hi), if_pos rfl]
    · rw [List.getElem?_set_ne c, LI_at _ hi, if_neg (fun z => c z.symm)]
  · rw [List.getElem?_eq_none (by rw [List.length_set, LI_len]; omega), List.getElem?_eq_none (by rw [LI_len]; omega)]
theorem sumF_set (f : Nat → Int) (k : Nat) (v : Int) : ∀ n : Nat, sumF (fun i => if i = k then v else f i) n = sumF f n + (if k < n then v - f k else 0)
  | 0 => by
    rw [if_neg (Nat.not_lt_zero _)]
    rfl
  | n + 1 => by
    show sumF _ n + (if n = k then v else f n) = sumF f n + f n + _
    rw [sumF_set f k v n]
    by_cases c : n = k
    · subst c
      rw [if_pos rfl, if_neg (Nat.lt_irrefl _), if_pos (Nat.lt_succ_self _)]
      omega
    · rw [if_neg c]
      by_cases c2 : k < n
      · rw [if_pos c2, if_pos (by omega)]
        omega
      · rw [if_neg c2, if_neg (by omega)]
        omega
theorem map_LI {α : Type} (d : α) (l : List α) (g : α → Int) : l.map g = LI (fun m => g (l.getD m d)) l.length := by
  refine List.ext_getElem? fun i => ?_
  by_cases hi : i < l.length
  · rw [LI_at _ hi, List.getElem?_map, List.getElem?_eq_getElem hi, List.getD_eq_getElem?_getD, List.getElem?_eq_getElem hi]
    rfl
  · rw [List.getElem?_eq_none (by rw [List.length_map]; omega), List.getElem?_eq_none (by rw [LI_len]; omega)]
def cap (lw hg : Nat → Int) (k : Nat) : Nat → Int
  | 0 => 0
  | j + 1 => cap lw hg k j + (if j = k then 0 else hg j - lw j)
theorem cap_eq (lw hg : Nat → Int) (k : Nat) : ∀ n : Nat, cap lw hg k n = sumF hg n - sumF lw n - (if k < n then hg k - lw k else 0)
  | 0 => by
    rw [if_neg (Nat.not_lt_zero _)]
    rfl
  | n + 1 => by
    show cap lw hg k n + (if n = k then 0 else hg n - lw n) = sumF hg n + hg n - (sumF lw n + lw n) - _
    rw [cap_eq lw hg k n]
    by_cases c : n = k
    · subst c
      rw [if_pos rfl, if_neg (Nat.lt_irrefl _), if_pos (Nat.lt_succ_self _)]
      omega
    · rw [if_neg c]
      by_cases c2 : k < n
      · rw [if_pos c2, if_pos (by omega)]
        omega
      · rw [if_neg c2, if_neg (by omega)]
        omega
theorem cap_nn {lw hg : Nat → Int} {k : Nat} : ∀ {n : Nat}, (∀ i, i < n → lw i ≤ hg i) → 0 ≤ cap lw hg k n
  | 0, _ => Int.le_refl _
  | n + 1, h => by
    have h1 := cap_nn (lw := lw) (hg := hg) (k := k) (n := n) fun i hi => h i (by omega)
    have h2 := h n (by omega)
    show 0 ≤ cap lw hg k n + (if n = k then 0 else hg n - lw n)
    by_cases c : n = k
    · rw [if_pos c]
      omega
    · rw [if_neg c]
      omega
theorem sumF_le {lw hg : Nat → Int} : ∀ {n : Nat}, (∀ i, i < n → lw i ≤ hg i) → sumF lw n ≤ sumF hg n
  | 0, _ => Int.le_refl _
  | n + 1, h => by
    have h1 := sumF_le (lw := lw) (hg := hg) (n := n) fun i hi => h i (by omega)
    have h2 := h n (by omega)
    show sumF lw n + lw n ≤ sumF hg n + hg n
    omega
theorem sumF_bound {f : Nat → Int} {b : Int} : ∀ {n : Nat}, (∀ i, i < n → 0 ≤ f i ∧ f i ≤ b) → 0 ≤ sumF f n ∧ sumF f n ≤ (n : Int) * b
  | 0, _ => by
    constructor
    · exact Int.le_refl _
    · show (0 : Int) ≤ ((0 : Nat) : Int) * b
      simp
  | n + 1, h => by
    obtain ⟨h1, h2⟩ := sumF_bound (f := f) (b := b) (n := n) fun i hi => h i (by omega)
    have h3 := h n (by omega)
    have e : ((n + 1 : Nat) : Int) * b = (n : Int) * b + b := by
      rw [Int.natCast_succ, Int.add_mul, Int.one_mul]
    rw [e]
    show 0 ≤ sumF f n + f n ∧ sumF f n + f n ≤ (n : Int) * b + b
    omega
def bLo (SH : Int) (c : Option Int) (low high : Int) : Int := match c with
  | none => low
  | some c => if high - (SH - c) > low then high - (SH - c) else low
def bHi (SL : Int) (c : Option Int) (low high : Int) : Int := match c with
  | none => high
  | some c => if low + (c - SL) < high then low + (c - SL) else high
def badC (SL SH : Int) (c : Option Int) : Prop := ∃ x, c = some x ∧ (x < SL ∨ x > SH)
def cV : Option Int → V
  | some d => .int d
  | none => .non
structure TA (H : Hp) (ts : List Addr) (n : Nat) (f : Nat → List V) : Prop where
  len : ts.length = n
  at_ : ∀ (i : Nat) (t : Addr), ts[i]? = some t → H t = some (.tup (f i))
theorem TA.same {H H' : Hp} {ts : List Addr} {n : Nat} {f : Nat → List V} (h : TA H ts n f) (s : Same H H') : TA H' ts n f := ⟨h.len, fun i t e => s _ _ (h.at_ i t e)⟩
theorem TA.nil (H : Hp) (f : Nat → List V) : TA H [] 0 f := ⟨rfl, fun i t e => by simp at e⟩
theorem TA.snoc {H : Hp} {ts : List Addr} {n : Nat} {f : Nat → List V} {t : Addr} (h : TA H ts n f) (e : H t = some (.tup (f n))) : TA H (ts ++ [t]) (n + 1) f := by
  refine ⟨by rw [List.length_append, h.len]; rfl, fun i t' a => ?_⟩
  by_cases c : i < ts.length
  · rw [List.getElem?_append_left c] at a
    exact h.at_ i t' a
  · rw [List.getElem?_append_right (by omega)] at a
    have hi := (List.getElem?_eq_some_iff.mp a).1
    simp only [List.length_cons, List.length_nil] at hi
    have hi : i = n := by
      have := h.len
      omega
    subst hi
    rw [h.len, Nat.sub_self] at a
    cases a
    exact e
theorem TA.get {H : Hp} {ts : List Addr} {n : Nat} {f : Nat → List V} (h : TA H ts n f) {i : Nat} (hi : i < n) : ∃ t, ts[i]? = some t ∧ H t = some (.tup (f i)) := by
  have : i < ts.length := by rw [h.len]; exact hi
  exact ⟨_, List.getElem?_eq_getElem this, h.at_ i _ (List.getElem?_eq_getElem this)⟩
theorem TA.congr {H : Hp} {ts : List Addr} {n : Nat} {f g : Nat → List V} (h : TA H ts n f) (e : ∀ i, i < n → f i = g i) : TA H ts n g := ⟨h.len, fun i t a => by
  have hi := (List.getElem?_eq_some_iff.mp a).1
  rw [h.len] at hi
  rw [← e i hi]
  exact h.at_ i t a⟩
theorem TA.put {H : Hp} {ts : List Addr} {n : Nat} {f : Nat → List V} {D : Addr} {xs : List V} {u : HO} (h : TA H ts n f) (e : H D = some (.lst xs) ∨ H D = none) : TA (upd H D u) ts n f := ⟨h.len, fun i t a => by
  have q := h.at_ i t a
  rw [upd_ne (fun z => by rw [z] at q; rcases e with e | e <;> rw [e] at q <;> cases q)]
  exact q⟩
theorem lenSeq_K {X : Cx} {K : PySem.W.Frag} (h : X.K = K) : CallR X (.builtin "len") (fun xs H Q => ∃ p ys, xs = [.ref p] ∧ (SqL K H p ys ∨ SqT K H p ys) ∧ Q (.int ys.length) H) := h ▸ call_len_seq
theorem pg_tupK {X : Cx} {K : PySem.W.Frag} {es : List Expr} {k : Nat} {t : TGs} {n : Nat} {pos : Pos} (hK : X.K = K) (hc : X.calm = true) (h : PGs X es t) (hn : (assignEach es X.env).length = n := by rfl) (hst : (assignEach es X.env).findIdx? (·.1) = none := by rfl) : PG X (.Tuple es k pos) (gTup K n t) := hK ▸ pg_tup hc h hn hst
def cOk (c : Option Int) : Prop := ∀ x, c = some x → IntOk x
def rng (a b : Int) : List Int := LI (fun i => a + (i : Int)) (b + 1 - a).toNat
theorem mem_rng {a b x : Int} : x ∈ rng a b ↔ a ≤ x ∧ x ≤ b := by
  unfold rng
  rw [mem_LI]
  constructor
  · rintro ⟨i, h, e⟩
    have e : a + (i : Int) = x := e
    omega
  · rintro ⟨h1, h2⟩
    exact ⟨(x - a).toNat, by omega, by show a + (((x - a).toNat : Nat) : Int) = x; omega⟩
theorem rng_len (a b : Int) : (rng a b).length = (b + 1 - a).toNat := LI_len _ _
theorem LI_cons (f : Nat → Int) (n : Nat) : LI f (n + 1) = f 0 :: LI (fun i => f (i + 1)) n := by
  refine List.ext_getElem? fun i => ?_
  cases i with
  | zero => rw [LI_at _ (by omega)]; rfl
  | succ i =>
    rw [List.getElem?_cons_succ]
    by_cases h : i < n
    · rw [LI_at _ (by omega), LI_at _ h]
    · rw [List.getElem?_eq_none (by rw [LI_len]; omega), List.getElem?_eq_none (by rw [LI_len]; omega)]
theorem rng_cons {a b : Int} (h : a ≤ b) : rng a b = a :: rng (a + 1) b := by
  unfold rng
  rw [show (b + 1 - a).toNat = (b + 1 - (a + 1)).toNat + 1 by omega, LI_cons]
  congr 1
  · show a + ((0 : Nat) : Int) = a
    omega
  · exact LI_congr fun i _ => by show a + ((i + 1 : Nat) : Int) = a + 1 + (i : Int); omega
theorem rng_nil {a b : Int} (h : b < a) : rng a b = [] := by
  unfold rng
  rw [show (b + 1 - a).toNat = 0 by omega]
  rfl
def mx (x y : Int) : Int := if y > x then y else x
def mn (x y : Int) : Int := if y < x then y else x
theorem mx_le {x y z : Int} : mx x y ≤ z ↔ x ≤ z ∧ y ≤ z := by
  unfold mx
  by_cases h : y > x
  · rw [if_pos h]; omega
  · rw [if_neg h]; omega
theorem le_mn {x y z : Int} : z ≤ mn x y ↔ z ≤ x ∧ z ≤ y := by
  unfold mn
  by_cases h : y < x
  · rw [if_pos h]; omega
  · rw [if_neg h]; omega
structure TL (H : Hp) (ts : List Addr) (ws : List (List Int)) : Prop where
  len : ts.length = ws.length
  at_ : ∀ (i : Nat) (t : Addr) (x : List Int), ts[i]? = some t → ws[i]? = some x → H t = some (.tup (x.map V.int))
theorem TL.same {H H' : Hp} {ts : List Addr} {ws : List (List Int)} (h : TL H ts ws) (s : Same H H') : TL H' ts ws := ⟨h.len, fun i t x e f => s _ _ (h.at_ i t x e f)⟩
theorem TL.nil (H : Hp) : TL H [] [] := ⟨rfl, fun i t x e => by simp at e⟩
theorem TL.snoc {H : Hp} {ts : List Addr} {ws : List (List Int)} {t : Addr} {x : List Int} (h : TL H ts ws) (e : H t = some (.tup (x.map V.int))) : TL H (ts ++ [t]) (ws ++ [x]) := by
  refine ⟨by rw [List.length_append, List.length_append, h.len]; rfl, fun i t' x' a b => ?_⟩
  by_cases c : i < ts.length
  · rw [List.getElem?_append_left c] at a
    rw [List.getElem?_append_left (by rw [← h.len]; exact c)] at b
    exact h.at_ i t' x' a b
  · rw [List.getElem?_append_right (by omega)] at a
    rw [List.getElem?_append_right (by rw [← h.len]; omega)] at b
    have hi := (List.getElem?_eq_some_iff.mp a).1
    simp only [List.length_cons, List.length_nil] at hi
    have hi : i = ts.length := by omega
    rw [← h.len] at b
    rw [hi, Nat.sub_self] at a b
    cases a
    cases b
    exact e
theorem TL.put {H : Hp} {ts : List Addr} {ws : List (List Int)} {D : Addr} {u : HO} (h : TL H ts ws) (e : (∃ xs, H D = some (.lst xs)) ∨ H D = none) : TL (upd H D u) ts ws := ⟨h.len, fun i t x a b => by
  have q := h.at_ i t x a b
  rw [upd_ne (fun z => by
    rw [z] at q
    rcases e with ⟨xs, e⟩ | e <;> rw [e] at q <;> cases q)]
  exact q⟩
theorem TL.get {H : Hp} {ts : List Addr} {ws : List (List Int)} (h : TL H ts ws) {i : Nat} {t : Addr} (e : ts[i]? = some t) : ∃ x, ws[i]? = some x ∧ H t = some (.tup (x.map V.int)) := by
  have hi := (List.getElem?_eq_some_iff.mp e).1
  rw [h.len] at hi
  exact ⟨_, List.getElem?_eq_getElem hi, h.at_ i t _ e (List.getElem?_eq_getElem hi)⟩
theorem TL.get2 {H : Hp} {ts : List Addr} {ws : List (List Int)} (h : TL H ts ws) {i : Nat} {x : List Int} (e : ws[i]? = some x) : ∃ t, ts[i]? = some t ∧ H t = some (.tup (x.map V.int)) := by
  have hi := (List.getElem?_eq_some_iff.mp e).1
  rw [← h.len] at hi
  exact ⟨_, List.getElem?_eq_getElem hi, h.at_ i _ x (List.getElem?_eq_getElem hi) e⟩
def rSumT (K : PySem.W.Frag) : List V → Hp → VK → Prop := fun vs H Q => ∃ (a : Addr) (ns : List Int), vs = [V.ref a] ∧ SqT K H a (ns.map V.int) ∧ Q (.int ns.sum) H
theorem cr_sumT {X : Cx} (hc : X.calm = true) : CallR X (.builtin "sum") (rSumT X.K) := by
  intro pins s σ H vs us Q I r h
  obtain ⟨a, ns, rfl, hs, q⟩ := h
  obtain ⟨its, rv, hl, _⟩ := I.tuple hs
  rw [Vals.ref1 r]
  have hi := rv.ints
  obtain ⟨xs, e⟩ := hi.allInts.items
  have hn : numsOf (intItems xs).toList = ns := by rw [← e]; exact hi.numsOf
  rw [nums_intItems] at hn
  rw [e] at hl
  refine PySem.W.ktm_sumG (I.ok.hd hc) (show s.heap.IsTuple a (intItems xs) from hl) fun h' tk t' hk => ⟨.int _, H, I.kept hk, ⟨_, rfl⟩, ?_⟩
  rw [preSum_eq, List.take_of_length_le (by simp), hn]
  exact q
theorem cr_sumT_K {X : Cx} {K : PySem.W.Frag} (hK : X.K = K) (hc : X.calm = true) : CallR X (.builtin "sum") (rSumT K) := hK ▸ cr_sumT hc
theorem pi_listK {X : Cx} {K : PySem.W.Frag} {tg l : Expr} {tl : TE} (hK : X.K = K) (hl : PE X l tl) : PI X tg l (iList K tl) := hK ▸ pi_list hl
theorem out_it {J : It} {n : Nat} {G : Hp → Prop} {Y : Nat → Hp → V → Hp → Prop} (w : Walk J n G Y) {B : V → Hp → (Hp → Prop) → Prop} {H0 : Hp} {Qd : Hp → Prop} (Pv : Nat → Hp → Prop) (h0 : Pv 0 H0) (hG : ∀ i H, i ≤ n → Pv i H → G H)
    (hs : ∀ i x H H', i < n → Pv i H → Y i H x H' → B x H' (Pv (i + 1))) (hd : ∀ H, Pv n H → Qd H) :
    ∃ W : Nat → Nat → Hp → Prop, (∃ m, W 0 m H0) ∧ ∀ i m H, W i m H →
      (J.stop i H ∧ Qd H) ∨ (J.go i H ∧ ∃ Nx : Hp → Prop, (∀ H', Nx H' → ∃ m', m' < m ∧ W (i + 1) m' H') ∧ ∀ x H', J.yld i H x H' → B x H' Nx) := by
  refine ⟨fun i m H => m = n - i ∧ i ≤ n ∧ Pv i H, ⟨n, by simp, Nat.zero_le _, h0⟩, ?_⟩
  rintro i m H ⟨rfl, hi, p⟩
  have q := hG i H hi p
  by_cases hlt : i < n
  · exact .inr ⟨w.goes i H hlt q, Pv (i + 1), fun H' p' => ⟨n - (i + 1), by omega, rfl, hlt, p'⟩, fun x H' y => hs i x H H' hlt p (w.yields i H x H' hlt q y)⟩
  · have e : i = n := by omega
    subst e
    exact .inl ⟨w.stops H q, hd H p⟩
theorem rgV_rng (a b : Int) : rgV a (b + 1) = (rng a b).map V.int := by
  unfold rgV rng LI
  rw [List.map_map]
  rfl
theorem sum_app : ∀ (l m : List Int), (l ++ m).sum = l.sum + m.sum
  | [], m => by simp
  | x :: r, m => by
    rw [List.cons_append, List.sum_cons, List.sum_cons, sum_app r m]
    omega
theorem drop_sum (f : Nat → Int) {n j : Nat} (h : j ≤ n) : ((LI f n).drop j).sum = sumF f n - sumF f j := by
  have e := sum_app ((LI f n).take j) ((LI f n).drop j)
  rw [List.take_append_drop, LI_take f h, LI_sum, LI_sum] at e
  omega
theorem log_abs {x : Int} {d : Nat} (e : x.natAbs = d) (h : d ≤ 4000) : x.natAbs.log2 < 1920 := by
  rw [e]
  have h1 : d.log2 < 12 := by
    by_cases c : d = 0
    · subst c
      decide
    · exact (Nat.log2_lt c).mpr (by omega)
  omega
theorem cOk_of {x : Int} (h : x.natAbs ≤ 4000) : cOk (some x) := fun y e => by
  cases e
  exact log_abs rfl h
theorem cOk_none : cOk none := fun y e => by cases e
theorem cOk_int {x : Int} (h : IntOk x) : cOk (some x) := fun y e => by
  cases e
  exact h
theorem ifS_test {tc : TT} {tt te : TS} {D : Ends} {σ : L2.St} {H : Hp} (b : Bool) (h : ∀ Q : Bool → Hp → Prop, (∀ H', Same H H' → Q b H') → tc σ H Q) (hn : ∀ H', Same H H' → if b = true then tt D σ H' else te D σ H') : tIfS tc tt te D σ H :=
  h (fun b H1 => if b = true then tt D σ H1 else te D σ H1) hn
def dw (x : List Int) : PyData := .tuple ((x.map V.int).map dV)
theorem dp_worlds {K : PySem.W.Frag} {H : Hp} : ∀ (ts : List Addr) (ws : List (List Int)), TL H ts ws → DpAll K H (ts.map V.ref) (ws.map dw)
  | [], [], _ => .nil
  | [], x :: r, h => by cases h.len
  | t :: r, [], h => by cases h.len
  | t :: r, x :: l, h => .cons (.tup (SqT.of (h.at_ 0 t x rfl rfl)) (dp_flats _ fun y hy => by
      obtain ⟨z, _, rfl⟩ := List.mem_map.mp hy
      rfl)) (dp_worlds r l ⟨Nat.succ.inj h.len, fun i t' x' e f => h.at_ (i + 1) t' x' e f⟩)
theorem ints_fl (x : List Int) : ∀ y ∈ x.map V.int, flS y = true := fun y hy => by
  obtain ⟨z, _, rfl⟩ := List.mem_map.mp hy
  rfl
theorem lay_worlds : ∀ ws : List (List Int), PyData.canLayAll0 (ws.map dw) = true
  | [] => by simp [PyData.canLayAll0]
  | x :: r => by
    have h1 := lay_worlds r
    rw [List.map_cons]
    unfold PyData.canLayAll0
    rw [h1, Bool.and_true]
    unfold dw
    simp only [PyData.canLay0]
    exact flat_lay _ (ints_fl x)
theorem depth_worlds : ∀ ws : List (List Int), PyData.depthAll (ws.map dw) ≤ 1
  | [] => by simp [PyData.depthAll]
  | x :: r => by
    have h1 := depth_worlds r
    have h2 : PyData.depth (dw x) = 1 := by
      unfold dw
      simp only [PyData.depth, flat_depth]
    rw [List.map_cons]
    unfold PyData.depthAll
    rw [h2]
    omega
def blk (f : Int) (k : Nat) : List Int := (List.range k).map fun (j : Nat) => f + (j : Int)
theorem blk_succ (f : Int) (k : Nat) : blk f (k + 1) = blk f k ++ [f + (k : Int)] := by
  unfold blk
  rw [List.range_succ, List.map_append]
  rfl
theorem mem_blk {f : Int} {k : Nat} {x : Int} : x ∈ blk f k ↔ f ≤ x ∧ x < f + (k : Int) := by
  unfold blk
  rw [List.mem_map]
  constructor
  · rintro ⟨j, hj, rfl⟩
    have := List.mem_range.mp hj
    omega
  · rintro ⟨h1, h2⟩
    exact ⟨(x - f).toNat, List.mem_range.mpr (by omega), by omega⟩
theorem nodup_blk (f : Int) : ∀ k : Nat, (blk f k).Nodup
  | 0 => List.nodup_nil
  | k + 1 => by
    rw [blk_succ, List.nodup_append]
    refine ⟨nodup_blk f k, by simp, fun x hx y hy => ?_⟩
    have h1 := mem_blk.mp hx
    have h2 : y = f + (k : Int) := by simpa using hy
    omega
theorem blk_length (f : Int) (k : Nat) : (blk f k).length = k := by
  unfold blk
  rw [List.length_map, List.length_range]
theorem rgV_blk (f : Int) (k : Nat) : rgV f (f + (k : Int)) = (blk f k).map V.int := by
  unfold rgV blk
  rw [List.map_map, show (f + (k : Int) - f).toNat = k by omega]
  rfl
end Nu
namespace Nu
open PySem PySem.Spec PyProof.Rows L2
/-- the draws' state s, of the script sc -/
structure Drw (K : PySem.W.Frag) (H : Hp) (s sc : Addr) (ns : List Int) : Prop where
  sq : SqL K (fun _ => none) sc (ns.map V.int) ∨ (Rd H sc (.lst (ns.map V.int)) ∧ sc ≠ s)
  at_ : ∃ i m r : Int, H s = some (.lst [.ref sc, .int i, .int m, .int r]) ∧ 0 ≤ i ∧ 0 ≤ m ∧ 0 ≤ r
theorem sq_written {K : PySem.W.Frag} {H : Hp} {c : Addr} {xs : List V} (h : SqL K (fun _ => none) c xs) : SqL K H c xs := by
  rcases h with (h | ⟨o, h⟩) | h
  · cases h
  · cases h
  · exact .inr h
theorem Drw.seq {K : PySem.W.Frag} {H : Hp} {s sc : Addr} {ns : List Int} (d : Drw K H s sc ns) : SqL K H sc (ns.map V.int) := d.sq.elim sq_written fun h => .inl h.1
theorem Keep.rd {F : List Addr} {H H' : Hp} {c : Addr} {u : HO} (k : Keep F H H') (h : Rd H c u) (hc : c ∉ F) : Rd H' c u := by
  rcases h with h | ⟨o, h⟩
  · exact .inl (k _ _ h hc)
  · exact .inr ⟨o, k _ _ h hc⟩
/-- the state's own list changed -/
theorem Drw.upd {K : PySem.W.Frag} {H : Hp} {s sc : Addr} {ns : List Int} (d : Drw K H s sc ns) {i m r : Int} (hi : 0 ≤ i) (hm : 0 ≤ m) (hr : 0 ≤ r) : Drw K (L2.upd H s (.lst [.ref sc, .int i, .int m, .int r])) s sc ns :=
  ⟨d.sq.elim .inl fun h => .inr ⟨(keep_upd (F := [s]) (.inl (List.mem_singleton.mpr rfl))).rd h.1 (fun z => h.2 (List.mem_singleton.mp z)), h.2⟩, i, m, r, upd_same, hi, hm, hr⟩
theorem Drw.stay {K : PySem.W.Frag} {H H' : Hp} {s sc : Addr} {ns : List Int} {F : List Addr} (d : Drw K H s sc ns) (k : Keep F H H') (h1 : s ∉ F) (h2 : H sc ≠ none → sc ∉ F) : Drw K H' s sc ns := by
  obtain ⟨i, m, r, e, h⟩ := d.at_
  refine ⟨d.sq.elim .inl fun q => .inr ⟨k.rd q.1 (h2 ?_), q.2⟩, i, m, r, k _ _ e h1, h⟩
  rcases q.1 with z | ⟨o, z⟩ <;> rw [z] <;> simp
section
variable {P : Program} {w : World} {K : PySem.W.Frag} {mg : Str → Option Value} {base : Heap} {a : Ad} {fd : Fd}
def spStart (K : PySem.W.Frag) : Sp := fun vs H Q _ => ∃ (sc : Addr) (ns : List Int), vs = [.ref sc] ∧ SqL K H sc (ns.map V.int) ∧ ∀ s H', H s = none → Same H H' → Drw K H' s sc ns → Q (.ref s) H'
theorem ok_l_start (T : Txt K mg a fd) : FnOk P w K mg base CX0 1 a.l_start fd.l_start ["_law_script"] (spStart K) := by
  refine T.F_l_start.ok sc_l_start (fun vs H Q E h => ?_) (fun cdv A outer s H vs Q E hr h => ?_)
  · obtain ⟨sc, ns, rfl, _⟩ := h
    rfl
  · obtain ⟨sc, ns, rfl, hS, k⟩ := h
    refine ⟨_, (pss_cons (ps_set (i := 1) sc_l_start.nd rfl (Or.inl rfl) pe_int)
    (pss_cons (ps_for PassesOwn.never rfl (pi_list (pv 0)) (pg_name (i := 2) sc_l_start.nd rfl (Or.inl rfl))
      (pss_one (ps_set (i := 1) sc_l_start.nd rfl (Or.inl rfl) (pe_op op_mod (pe_op op_add (pe_op op_add (pe_op op_mul (pv 1) pe_int) (pv 2)) pe_int) pe_int))))
    (pss_one (ps_ret (pe_lst (pa_cons (pv 0) (pa_cons pe_int (pa_cons (pv 1) (pa_cons pe_int pa_nil))))))))), ?_⟩
    refine ⟨_, rfl, sc, rfl, ⟨_, hS⟩, for_list (K := K) (a := sc) (xs := ns.map V.int) (fun i σ H' => ∃ (m : Int) (v : Option V), σ = [some (.ref sc), some (.int m), v] ∧ H' = H ∧ 0 ≤ m) ⟨1, none, rfl, rfl, by decide⟩ (fun i σ H' _ ⟨_, _, _, e, _⟩ => by rw [e]; exact hS) ?_ ?_⟩
    · rintro i x σ H' hi ⟨m, v, rfl, rfl, hm⟩
      obtain ⟨n, hn, rfl⟩ := map_int_at hi
      refine ⟨_, rfl, _, _, rfl, rfl, .inr (by decide), _, rfl, _, _, rfl, rfl, _, _, rfl, rfl, _, _, rfl, rfl, (by show (0 : Int) < 2147483647; decide), ?_⟩
      exact ⟨_, _, rfl, rfl, Int.emod_nonneg _ (by decide)⟩
    · rintro σ H' ⟨m, v, rfl, rfl, hm⟩
      refine ⟨_, rfl, _, rfl, (by show 4 ≤ sizeLine; decide), fun s ns' => ?_⟩
      refine k s _ ns' (same_upd ns') ⟨?_, 0, m, 0, upd_same, by decide, hm, by decide⟩
      rcases hS with hS | hS
      · refine .inr ⟨(Keep.same (F := []) (same_upd ns')).rd hS (by simp), fun z => ?_⟩
        rcases hS with q | ⟨o, q⟩ <;> rw [z, ns'] at q <;> cases q
      · exact .inl (.inr hS)
def spDrawn (K : PySem.W.Frag) : Sp := fun vs H Q _ => ∃ (s sc : Addr) (ns : List Int) (n : Int), vs = [.ref s, .int n] ∧ Drw K H s sc ns ∧ 1 ≤ n ∧ n.natAbs.log2 < 9000 ∧ ∀ v H', 0 ≤ v → v < n → Keep [s] H H' → Drw K H' s sc ns → Q (.int v) H'
theorem at0 {α : Type} {x0 x1 x2 x3 : α} : atI [x0, x1, x2, x3] 0 = some x0 := rfl
theorem at1 {α : Type} {x0 x1 x2 x3 : α} : atI [x0, x1, x2, x3] 1 = some x1 := rfl
theorem at2 {α : Type} {x0 x1 x2 x3 : α} : atI [x0, x1, x2, x3] 2 = some x2 := rfl
theorem at3 {α : Type} {x0 x1 x2 x3 : α} : atI [x0, x1, x2, x3] 3 = some x3 := rfl
theorem ok_l_drawn (T : Txt K mg a fd) : FnOk P w K mg base CX0 1 a.l_drawn fd.l_drawn ["_law_state", "_law_many"] (spDrawn K) := by
  refine T.F_l_drawn.ok sc_l_drawn (fun vs H Q E h => ?_) (fun cdv A outer s H vs Q E hr h => ?_)
  · obtain ⟨s, sc, ns, n, rfl, _⟩ := h
    rfl
  · obtain ⟨s, sc, ns, n, rfl, D, hn, hlog, k⟩ := h
    obtain ⟨i, m, r, e, i0, m0, r0⟩ := D.at_
    have n0 : (0 : Int) < n := by omega
    have kp : ∀ (H : Hp) (u : HO), Keep [s] H (upd H s u) := fun H u => keep_upd (.inl (List.mem_singleton.mpr rfl))
    refine ⟨_, (pss_cons (ps_if (pt_cmpR op_gt (pe_ix ix_list (pv 0) pe_int (fun _ _ => rfl)) pe_int (nomark _)) (pss_cons (ps_set (i := 2) sc_l_drawn.nd rfl (Or.inl rfl) (pe_op op_mod (pe_ix ix_list (pv 0) pe_int (fun _ _ => rfl)) (pv 1)))
    (pss_cons (ps_asg (pe_op op_fdivW (pe_ix ix_list (pv 0) pe_int (fun _ _ => rfl)) (pv 1)) (pg_sub (pv 0) pe_int set_list))
    (pss_one (ps_ret (pv 2))))) pss_nil)
    (pss_cons (ps_asg (pe_op op_add (pe_ix ix_list (pv 0) pe_int (fun _ _ => rfl)) pe_int) (pg_sub (pv 0) pe_int set_list))
    (pss_cons (ps_if (pt_cmpR op_le (pe_ix ix_list (pv 0) pe_int (fun _ _ => rfl)) (pe_callB call_len_seq (by rfl) T.n_len PySem.boot_len (pa_cons (pe_ix ix_list (pv 0) pe_int (fun _ _ => rfl)) pa_nil)) (nomark _)) (pss_cons (ps_set (i := 3) sc_l_drawn.nd rfl (Or.inl rfl) (pe_ix ix_list (pe_ix ix_list (pv 0) pe_int (fun _ _ => rfl)) (pe_op op_sub (pe_ix ix_list (pv 0) pe_int (fun _ _ => rfl)) pe_int) (fun _ _ => rfl)))
    (pss_cons (ps_asg (pe_ifExp (pt_cmpR op_ge (pv 3) (pe_op op_pow pe_int pe_int) (nomark _)) (pe_op op_fdivW (pv 3) (pv 1)) pe_int) (pg_sub (pv 0) pe_int set_list))
    (pss_one (ps_ret (pe_op op_mod (pv 3) (pv 1)))))) pss_nil)
    (pss_cons (ps_asg (pe_op op_mod (pe_op op_add (pe_op op_mul (pe_ix ix_list (pv 0) pe_int (fun _ _ => rfl)) pe_int) pe_int) pe_int) (pg_sub (pv 0) pe_int set_list))
    (pss_one (ps_ret (pe_op op_mod (pe_op op_fdiv (pe_ix ix_list (pv 0) pe_int (fun _ _ => rfl)) pe_int) (pv 1)))))))), ?_⟩
    refine ⟨_, rfl, s, _, 3, _, rfl, rfl, SqL.of e, at3, _, _, rfl, rfl, _, rfl, ?_⟩
    by_cases c : 0 < r
    · rw [decide_eq_true c]
      refine iteT ?_
      refine ⟨_, rfl, s, _, 3, _, rfl, rfl, SqL.of e, at3, _, rfl, _, _, rfl, rfl, n0, ?_⟩
      refine ⟨_, rfl, s, _, 3, _, rfl, rfl, SqL.of e, at3, _, rfl, _, _, rfl, rfl, ⟨n0, hlog⟩, ?_⟩
      refine ⟨_, rfl, s, _, 3, 3, rfl, rfl, e, rfl, ?_⟩
      refine ⟨_, rfl, k _ _ (Int.emod_nonneg _ (by omega)) (Int.emod_lt_of_pos _ n0) (kp _ _) (D.upd i0 m0 (Int.ediv_nonneg r0 (by omega)))⟩
    · rw [decide_eq_false c]
      refine iteF ?_
      refine ⟨_, rfl, s, _, 1, _, rfl, rfl, SqL.of e, at1, _, _, rfl, rfl, ?_⟩
      refine ⟨_, rfl, s, _, 1, 1, rfl, rfl, e, rfl, ?_⟩
      have e1 : (upd H s (.lst ([V.ref sc, V.int i, V.int m, V.int r].set 1 (V.int (i + 1))))) s = some (.lst [.ref sc, .int (i + 1), .int m, .int r]) := upd_same
      have D1 : Drw K (upd H s (.lst ([V.ref sc, V.int i, V.int m, V.int r].set 1 (V.int (i + 1))))) s sc ns := D.upd (i := i + 1) (by omega) m0 r0
      have sq1 := D1.seq
      refine ⟨_, rfl, s, _, 1, _, rfl, rfl, SqL.of e1, at1, _, rfl, s, _, 0, _, rfl, rfl, SqL.of e1, at0, sc, _, rfl, .inl sq1, _, _, rfl, rfl, _, rfl, ?_⟩
      by_cases c2 : i + 1 ≤ ((ns.map V.int).length : Int)
      · rw [decide_eq_true c2]
        refine iteT ?_
        rw [List.length_map] at c2
        obtain ⟨j, rfl⟩ := Int.eq_ofNat_of_zero_le i0
        have hj : j < ns.length := by omega
        have hc : (ns.map V.int)[j]? = some (V.int ns[j]) := by rw [List.getElem?_map, List.getElem?_eq_getElem hj]; rfl
        refine ⟨_, rfl, s, _, 0, _, rfl, rfl, SqL.of e1, at0, _, rfl, s, _, 1, _, rfl, rfl, SqL.of e1, at1, _, _, rfl, rfl, sc, _, _, _, rfl, rfl, sq1, (by rw [show (j : Int) + 1 - 1 = (j : Int) by omega]; exact atI_nat hc), ?_⟩
        refine ⟨_, rfl, _, _, rfl, rfl, ⟨by decide, by decide, by decide⟩, _, _, rfl, rfl, _, rfl, ?_⟩
        by_cases c3 : (10 : Int) ^ (18 : Int).toNat ≤ ns[j]
        · rw [decide_eq_true c3]
          refine iteT ?_
          refine ⟨_, rfl, _, rfl, _, _, rfl, rfl, ⟨n0, hlog⟩, ?_⟩
          refine ⟨_, rfl, s, _, 3, 3, rfl, rfl, e1, rfl, ?_⟩
          refine ⟨_, rfl, _, rfl, _, _, rfl, rfl, n0, ?_⟩
          exact k _ _ (Int.emod_nonneg _ (by omega)) (Int.emod_lt_of_pos _ n0) ((kp _ _).trans (kp _ _)) (D1.upd (by omega) m0 (Int.ediv_nonneg (Int.le_trans (by decide) c3) (by omega)))
        · rw [decide_eq_false c3]
          refine iteF ?_
          refine ⟨_, rfl, s, _, 3, 3, rfl, rfl, e1, rfl, ?_⟩
          refine ⟨_, rfl, _, rfl, _, _, rfl, rfl, n0, ?_⟩
          exact k _ _ (Int.emod_nonneg _ (by omega)) (Int.emod_lt_of_pos _ n0) ((kp _ _).trans (kp _ _)) (D1.upd (by omega) m0 (Int.le_refl _))
      · rw [decide_eq_false c2]
        refine iteF ?_
        refine ⟨_, rfl, s, _, 2, _, rfl, rfl, SqL.of e1, at2, _, _, rfl, rfl, .inr (by decide), _, _, rfl, rfl, _, _, rfl, rfl, (by show (0 : Int) < 2147483647; decide), ?_⟩
        refine ⟨_, rfl, s, _, 2, 2, rfl, rfl, e1, rfl, ?_⟩
        refine ⟨_, rfl, s, _, 2, _, rfl, rfl, SqL.of upd_same, at2, _, _, rfl, rfl, ⟨by decide, by decide⟩, _, rfl, _, _, rfl, rfl, n0, ?_⟩
        exact k _ _ (Int.emod_nonneg _ (by omega)) (Int.emod_lt_of_pos _ n0) ((kp _ _).trans (kp _ _)) (D1.upd (by omega) (Int.emod_nonneg _ (by decide)) r0)
end
end Nu
namespace Nu
open PySem PySem.Spec PyProof.Rows L2
section
variable {X : Cx} {K : PySem.W.Frag}
theorem ixL_K (h : X.K = K) : IxR X (rIxL K) := h ▸ ix_list
theorem ixT_K (h : X.K = K) : IxR X (rIxT K) := h ▸ ix_tup
theorem ixS_K (h : X.K = K) : IxR X (rIx K) := h ▸ ix_seq
theorem inSeq_K (h : X.K = K) : OpR X (compareOp .In) (rIn K false) := h ▸ op_in_seq
theorem notInSeq_K (h : X.K = K) : OpR X (compareOp .NotIn) (rIn K true) := h ▸ op_notIn_seq
theorem pe_fldK {e : Expr} {f : Str} {pos : Pos} {ta : TE} (h : X.K = K) (he : PE X e ta) (hb : attributeBase e f X.env (eval e X.env) = eval e X.env) : PE X (.Attribute e f pos) (tFld K ta f) := h ▸ pe_fld he hb
end
/-- a list (b true) or a tuple at p -/
def SqB (H : Hp) (p : Addr) (xs : List V) (b : Bool) : Prop := H p = some (if b = true then .lst xs else .tup xs)
/-- the same data, at most n deep -/
def SmD (H : Hp) : Nat → V → V → Prop
  | 0, _, _ => False
  | n + 1, x, y => (x = y ∧ flatV y = true) ∨ ∃ p q xs ys b, x = .ref p ∧ y = .ref q ∧ SqB H p xs b ∧ SqB H q ys b ∧ xs.length = ys.length ∧ xs.length ≤ 1000 ∧ ∀ (i : Nat) (u v : V), xs[i]? = some u → ys[i]? = some v → SmD H n u v
theorem SmD.same {H H' : Hp} (s : Same H H') : ∀ (n : Nat) (x y : V), SmD H n x y → SmD H' n x y
  | 0, _, _, h => h.elim
  | n + 1, x, y, h => by
    rcases h with h | ⟨p, q, xs, ys, b, e1, e2, h1, h2, h3, h4, h5⟩
    · exact .inl h
    · exact .inr ⟨p, q, xs, ys, b, e1, e2, s _ _ h1, s _ _ h2, h3, h4, fun i u v a c => SmD.same s n u v (h5 i u v a c)⟩
theorem SqB.seq {K : PySem.W.Frag} {H : Hp} {p : Addr} {xs : List V} {b : Bool} (h : SqB H p xs b) : SqL K H p xs ∨ SqT K H p xs := by
  cases b with
  | true => exact .inl (SqL.of h)
  | false => exact .inr (SqT.of h)
theorem rix_seq {K : PySem.W.Frag} {H : Hp} {p : Addr} {xs : List V} {b : Bool} {j : Nat} {v : V} {Q : VK} (h : SqB H p xs b) (e : xs[j]? = some v) (q : Q v H) : rIx K (.ref p) (.int (j : Int)) H Q := by
  cases b with
  | true => exact .inl ⟨p, xs, _, v, rfl, rfl, SqL.of h, atI_nat e, q⟩
  | false => exact .inr (.inl ⟨p, xs, _, v, rfl, rfl, SqT.of h, atI_nat e, q⟩)
theorem notTL {K : PySem.W.Frag} {n : String} (h1 : kitB n "tuple" = some false) (h2 : kitB n "list" = some false) : PySem.W.kitAny K (.type n) [.type "tuple", .type "list"] = some false :=
  kitAny_cons (kit_ty h1) (fun _ => kitAny_cons (kit_ty h2) (fun _ => kitAny_nil) (fun z => by cases z)) (fun z => by cases z)
theorem isTL {K : PySem.W.Frag} (b : Bool) : PySem.W.kitAny K (.type (if b = true then "list" else "tuple")) [.type "tuple", .type "list"] = some true := by
  cases b with
  | true => exact kitAny_cons (kit_ty (r := false) (by decide +kernel)) (fun _ => kitAny_cons (kit_ty (r := true) (by decide +kernel)) (fun z => by cases z) (fun _ => rfl)) (fun z => by cases z)
  | false => exact kitAny_cons (kit_ty (r := true) (by decide +kernel)) (fun z => by cases z) (fun _ => rfl)
theorem isL {K : PySem.W.Frag} (b : Bool) : PySem.W.kitOne K (.type (if b = true then "list" else "tuple")) (.type "list") = some b := by
  cases b with
  | true => exact kit_ty (by decide +kernel)
  | false => exact kit_ty (by decide +kernel)
theorem tyB {K : PySem.W.Frag} {H : Hp} {p : Addr} {xs : List V} {b : Bool} (h : SqB H p xs b) : TyX K H (.ref p) (.type (if b = true then "list" else "tuple")) := by
  cases b with
  | true => exact .base (.lst h)
  | false => exact .base (.tup h)
theorem SqB.upd_new {H : Hp} {p t : Addr} {xs : List V} {b : Bool} {o : HO} (h : SqB H p xs b) (ht : H t = none) : SqB (upd H t o) p xs b := same_upd ht _ _ h
theorem tl_paired : Paired ClsV [.ty "tuple", .ty "list"] [.type "tuple", .type "list"] := .cons (.ty "tuple") (.cons (.ty "list") .nil)
section
variable {P : Program} {w : World} {K : PySem.W.Frag} {mg : Str → Option Value} {base : Heap} {a : Ad} {fd : Fd}
def spSame (n : Nat) : Sp := fun vs H Q _ => ∃ (x y : V), vs = [x, y] ∧ SmD H n x y ∧ ∀ H', Same H H' → Q (.bl true) H'
theorem ok_l_same (T : Txt K mg a fd) : ∀ n : Nat, FnOk P w K mg base CX0 (n + 1) a.l_same fd.l_same ["_law_found", "_law_due"] (spSame n)
  | 0 => by
    refine T.F_l_same.ok sc_l_same (fun vs H Q E h => ?_) (fun cdv A outer s H vs Q E hr h => ?_)
    · obtain ⟨x, y, rfl, _⟩ := h
      rfl
    · obtain ⟨x, y, rfl, h, _⟩ := h
      exact h.elim
  | n + 1 => by
    have G_l_same := ok_l_same T n
    refine T.F_l_same.ok sc_l_same (fun vs H Q E h => ?_) (fun cdv A outer s H vs Q E hr h => ?_)
    · obtain ⟨x, y, rfl, _⟩ := h
      rfl
    · obtain ⟨x, y, rfl, h, k⟩ := h
      refine ⟨_, (pss_cons (ps_if (pt_val (pe_callB call_isiT (by rfl) T.n_isinstance (by decide +kernel) (pa_cons (pv 1) (pa_cons (pe_tup (pa_cons (pe_bltn (v := .ty "tuple") (by rfl) T.n_tuple (by decide +kernel) rfl) (pa_cons (pe_bltn (v := .ty "list") (by rfl) T.n_list (by decide +kernel) rfl) pa_nil))) pa_nil)))) (pss_cons (ps_if (PW.pt (pw_or (pt_not (pt_val (pe_callB call_isiT (by rfl) T.n_isinstance (by decide +kernel) (pa_cons (pv 0) (pa_cons (pe_tup (pa_cons (pe_bltn (v := .ty "tuple") (by rfl) T.n_tuple (by decide +kernel) rfl) (pa_cons (pe_bltn (v := .ty "list") (by rfl) T.n_list (by decide +kernel) rfl) pa_nil))) pa_nil))))) (pw_or1 (pt_cmpR op_ne (pe_callB call_isi (by rfl) T.n_isinstance (by decide +kernel) (pa_cons (pv 0) (pa_cons (pe_bltn (v := .ty "list") (by rfl) T.n_list (by decide +kernel) rfl) pa_nil))) (pe_callB call_isi (by rfl) T.n_isinstance (by decide +kernel) (pa_cons (pv 1) (pa_cons (pe_bltn (v := .ty "list") (by rfl) T.n_list (by decide +kernel) rfl) pa_nil))) (nomark _))))) (pss_one (ps_ret pe_bl)) pss_nil)
    (pss_cons (ps_if (pt_cmpR op_ne (pe_callB call_len_seq (by rfl) T.n_len PySem.boot_len (pa_cons (pv 0) pa_nil)) (pe_callB call_len_seq (by rfl) T.n_len PySem.boot_len (pa_cons (pv 1) pa_nil)) (nomark _)) (pss_one (ps_ret pe_bl)) pss_nil)
    (pss_one (ps_ret (pe_cmpR (op_eqD hr.units) (pe_lc (own := [("_law_k", 2)]) (g := gName 2) (by rfl) sc_l_same.nd (pi_range1 (by rfl) T.n_range (pa_cons (pe_callB call_len_seq (by rfl) T.n_len PySem.boot_len (pa_cons (pv 1) pa_nil)) pa_nil)) (blkOk_by (own := [("_law_k", 2)]) (N := ["_law_found", "_law_due", "_law_k"]) (sc := defScope s_l_same) (by decide +kernel)) (fun _ _ _ _ _ => pg_name (i := 2) sc_l_same.nd rfl (Or.inl rfl)) (fun _ _ _ _ _ => (pts_one (pt_not (pt_val (pe_call G_l_same hr (by rfl) T.g_l_same T.F_l_same.kp T.b_l_same .nil pass0 (pa_cons (pe_ix (ixS_K (K := K) rfl) (pv 0) (pv 2) (fun _ _ => rfl)) (pa_cons (pe_ix (ixS_K (K := K) rfl) (pv 1) (pv 2) (fun _ _ => rfl)) pa_nil))))))) (fun _ _ _ _ _ => (pv 2))) (pe_lst pa_nil) (nomark _)))))) pss_nil)
    (pss_cons (ps_if (pt_cmpR op_isN (pv 1) pe_non (nomark _)) (pss_one (ps_ret (pe_cmpR op_isN (pv 0) pe_non (nomark _)))) pss_nil)
    (pss_cons (ps_if (pt_val (pe_callB call_isi (by rfl) T.n_isinstance (by decide +kernel) (pa_cons (pv 1) (pa_cons (pe_bltn (v := .ty "str") (by rfl) T.n_str (by decide +kernel) rfl) pa_nil)))) (pss_one (ps_ret (pe_and (pe_callB call_isi (by rfl) T.n_isinstance (by decide +kernel) (pa_cons (pv 0) (pa_cons (pe_bltn (v := .ty "str") (by rfl) T.n_str (by decide +kernel) rfl) pa_nil))) (pe_one (pe_cmpR op_eq (pv 0) (pv 1) (nomark _)))))) pss_nil)
    (pss_cons (ps_if (PW.pt (pw_or (pt_val (pe_callB call_isi (by rfl) T.n_isinstance (by decide +kernel) (pa_cons (pv 1) (pa_cons (pe_bltn (v := .ty "bool") (by rfl) T.n_bool (by decide +kernel) rfl) pa_nil)))) (pw_or1 (pt_val (pe_callB call_isi (by rfl) T.n_isinstance (by decide +kernel) (pa_cons (pv 0) (pa_cons (pe_bltn (v := .ty "bool") (by rfl) T.n_bool (by decide +kernel) rfl) pa_nil))))))) (pss_one (ps_ret (pe_and (pe_callB call_isi (by rfl) T.n_isinstance (by decide +kernel) (pa_cons (pv 1) (pa_cons (pe_bltn (v := .ty "bool") (by rfl) T.n_bool (by decide +kernel) rfl) pa_nil))) (pe_and (pe_callB call_isi (by rfl) T.n_isinstance (by decide +kernel) (pa_cons (pv 0) (pa_cons (pe_bltn (v := .ty "bool") (by rfl) T.n_bool (by decide +kernel) rfl) pa_nil))) (pe_one (pe_cmpR op_eq (pv 0) (pv 1) (nomark _))))))) pss_nil)
    (pss_one (ps_ret (pe_and (pe_callB call_isi (by rfl) T.n_isinstance (by decide +kernel) (pa_cons (pv 0) (pa_cons (pe_bltn (v := .ty "int") (by rfl) T.n_int (by decide +kernel) rfl) pa_nil))) (pe_one (pe_cmpR op_eq (pv 0) (pv 1) (nomark _)))))))))), ?_⟩
      rcases h with ⟨rfl, hf⟩ | ⟨p, q, xs, ys, b, rfl, rfl, h1, h2, h3, h4, h5⟩
      · -- a number, a text, a truth, nothing
        cases x with
        | non =>
          refine ⟨_, rfl, (by show 2 ≤ sizeLine; decide), fun t ht => ⟨_, t, _, _, _, _, rfl, upd_same, tl_paired, .base .non, notTL (by decide +kernel) (by decide +kernel), _, rfl, iteF ?_⟩⟩
          refine ⟨_, rfl, rfl, _, rfl, iteT ?_⟩
          exact ⟨_, rfl, rfl, k _ (same_upd ht)⟩
        | bl c =>
          refine ⟨_, rfl, (by show 2 ≤ sizeLine; decide), fun t ht => ⟨_, t, _, _, _, _, rfl, upd_same, tl_paired, .base (.bl c), notTL (by decide +kernel) (by decide +kernel), _, rfl, iteF ?_⟩⟩
          refine ⟨_, rfl, rfl, _, rfl, iteF ?_⟩
          refine ⟨_, rfl, _, _, _, _, _, rfl, .ty "str", .base (.bl c), kit_ty (r := false) (by decide +kernel), _, rfl, iteF ?_⟩
          refine ⟨_, rfl, _, _, _, _, _, rfl, .ty "bool", .base (.bl c), kit_ty (r := true) (by decide +kernel), _, rfl, iteT (iteT ?_)⟩
          refine ⟨_, rfl, _, _, _, _, _, rfl, .ty "bool", .base (.bl c), kit_ty (r := true) (by decide +kernel), _, rfl, iteT ?_⟩
          refine ⟨_, rfl, _, _, _, _, _, rfl, .ty "bool", .base (.bl c), kit_ty (r := true) (by decide +kernel), _, rfl, iteT ?_⟩
          refine ⟨_, rfl, _, rfl, rfl, ?_⟩
          rw [decide_eq_true rfl]
          exact k _ (same_upd ht)
        | int c =>
          refine ⟨_, rfl, (by show 2 ≤ sizeLine; decide), fun t ht => ⟨_, t, _, _, _, _, rfl, upd_same, tl_paired, .base (.int c), notTL (by decide +kernel) (by decide +kernel), _, rfl, iteF ?_⟩⟩
          refine ⟨_, rfl, rfl, _, rfl, iteF ?_⟩
          refine ⟨_, rfl, _, _, _, _, _, rfl, .ty "str", .base (.int c), kit_ty (r := false) (by decide +kernel), _, rfl, iteF ?_⟩
          refine ⟨_, rfl, _, _, _, _, _, rfl, .ty "bool", .base (.int c), kit_ty (r := false) (by decide +kernel), _, rfl, iteF ?_⟩
          refine ⟨_, rfl, _, _, _, _, _, rfl, .ty "bool", .base (.int c), kit_ty (r := false) (by decide +kernel), _, rfl, iteF ?_⟩
          refine ⟨_, rfl, _, _, _, _, _, rfl, .ty "int", .base (.int c), kit_ty (r := true) (by decide +kernel), _, rfl, iteT ?_⟩
          refine ⟨_, rfl, _, rfl, rfl, ?_⟩
          rw [decide_eq_true rfl]
          exact k _ (same_upd ht)
        | str c =>
          refine ⟨_, rfl, (by show 2 ≤ sizeLine; decide), fun t ht => ⟨_, t, _, _, _, _, rfl, upd_same, tl_paired, .base (.str c), notTL (by decide +kernel) (by decide +kernel), _, rfl, iteF ?_⟩⟩
          refine ⟨_, rfl, rfl, _, rfl, iteF ?_⟩
          refine ⟨_, rfl, _, _, _, _, _, rfl, .ty "str", .base (.str c), kit_ty (r := true) (by decide +kernel), _, rfl, iteT ?_⟩
          refine ⟨_, rfl, _, _, _, _, _, rfl, .ty "str", .base (.str c), kit_ty (r := true) (by decide +kernel), _, rfl, iteT ?_⟩
          refine ⟨_, rfl, _, rfl, rfl, ?_⟩
          rw [decide_eq_true rfl]
          exact k _ (same_upd ht)
        | byt c => cases hf
        | flt c => cases hf
        | ref c => cases hf
        | ty c => cases hf
      · -- lists, tuples
        refine ⟨_, rfl, (by show 2 ≤ sizeLine; decide), fun t ht => ⟨_, t, _, _, _, _, rfl, upd_same, tl_paired, tyB (h2.upd_new ht), isTL b, _, rfl, iteT ?_⟩⟩
        have p1 := h1.upd_new (o := .tup [V.ty "tuple", V.ty "list"]) ht
        have q1 := h2.upd_new (o := .tup [V.ty "tuple", V.ty "list"]) ht
        refine ⟨_, rfl, (by show 2 ≤ sizeLine; decide), fun t2 ht2 => ⟨_, t2, _, _, _, _, rfl, upd_same, tl_paired, tyB (p1.upd_new ht2), isTL b, _, rfl, iteF ?_⟩⟩
        have p2 := p1.upd_new (o := .tup [V.ty "tuple", V.ty "list"]) ht2
        have q2 := q1.upd_new (o := .tup [V.ty "tuple", V.ty "list"]) ht2
        have s2 : Same H _ := (same_upd (o := .tup [V.ty "tuple", V.ty "list"]) ht).trans (same_upd (o := .tup [V.ty "tuple", V.ty "list"]) ht2)
        refine ⟨_, rfl, _, _, _, _, _, rfl, .ty "list", tyB p2, isL b, _, rfl, _, _, _, _, _, rfl, .ty "list", tyB q2, isL b, rfl, _, rfl, ?_⟩
        rw [decide_eq_true rfl]
        refine iteF ?_
        refine ⟨_, rfl, p, _, rfl, p2.seq, _, rfl, q, _, rfl, q2.seq, rfl, _, rfl, ?_⟩
        rw [decide_eq_true (by rw [h3])]
        refine iteF ?_
        -- return [..] == []
        refine ⟨_, rfl, q, _, rfl, q2.seq, _, rfl, by omega, by omega, fun D nD => ?_⟩
        refine ⟨fun i m H' => m = ys.length - i ∧ i ≤ ys.length ∧ Same _ H' ∧ H' D = some (.lst []), ⟨ys.length, rfl, Nat.zero_le _, same_upd nD, upd_same⟩, ?_⟩
        rintro i m H3 ⟨rfl, hi, s3, hD⟩
        by_cases hlt : i < ys.length
        · refine .inr ⟨by show i < ((ys.length : Nat) : Int).toNat; omega, fun H' => Same _ H' ∧ H' D = some (.lst []), fun H' q => ⟨ys.length - (i + 1), by omega, rfl, hlt, q⟩, fun x H4 y => ?_⟩
          obtain ⟨rfl, rfl⟩ := y
          refine ⟨rfl, ?_⟩
          have ex : xs[i]? = some (xs[i]'(by omega)) := List.getElem?_eq_getElem _
          have ey : ys[i]? = some ys[i] := List.getElem?_eq_getElem hlt
          have e0 : (0 : Int) + (i : Int) = (i : Int) := by omega
          refine ⟨_, rfl, _, rfl, ?_⟩
          rw [e0]
          refine rix_seq (s3 _ _ p2) ex ⟨_, rfl, _, rfl, ?_⟩
          refine rix_seq (s3 _ _ q2) ey ⟨_, _, rfl, SmD.same (s2.trans s3) _ _ _ (h5 i _ _ ex ey), fun H5 s5 => ⟨_, rfl, iteF ?_⟩⟩
          exact ⟨s3.trans s5, s5 _ _ hD⟩
        · refine .inl ⟨by show ((ys.length : Nat) : Int).toNat ≤ i; omega, ?_⟩
          refine ⟨Nat.zero_le _, fun e ne => ⟨.list [], .list [], .lst (SqL.of ?_) .nil, .lst (SqL.of upd_same) .nil, rfl, rfl, ?_⟩⟩
          · rw [upd_ne (fun z => by rw [z, ne] at hD; cases hD)]
            exact hD
          · exact k _ ((s2.trans s3).trans (same_upd ne))
end
end Nu
namespace Nu
open PySem PySem.Spec PyProof.Rows L2
theorem Drw.new {K : PySem.W.Frag} {H : Hp} {s sc : Addr} {ns : List Int} (D : Drw K H s sc ns) {l : Addr} {o : HO} (hl : H l = none) : Drw K (L2.upd H l o) s sc ns :=
  D.stay (Keep.same (F := []) (same_upd hl)) (by simp) (fun _ => by simp)
theorem Drw.same {K : PySem.W.Frag} {H H' : Hp} {s sc : Addr} {ns : List Int} (D : Drw K H s sc ns) (e : Same H H') : Drw K H' s sc ns :=
  D.stay (Keep.same (F := []) e) (by simp) (fun _ => by simp)
theorem Drw.ns {K : PySem.W.Frag} {H : Hp} {s sc l : Addr} {ns : List Int} (D : Drw K H s sc ns) (hl : H l = none) : l ∉ [s] := fun z => by
  obtain ⟨i, m, r, e, _⟩ := D.at_
  rw [List.mem_singleton.mp z, e] at hl
  cases hl
theorem Drw.over {K : PySem.W.Frag} {H H' : Hp} {s sc l : Addr} {ns : List Int} {o : HO} (D : Drw K H s sc ns) (k : Keep [s] H H') (D' : Drw K H' s sc ns) (hl : H l = none) : Drw K (L2.upd H' l o) s sc ns := by
  have nls := D.ns hl
  obtain ⟨i, m, r, e, h⟩ := D'.at_
  refine ⟨D.sq.elim .inl fun q => .inr ⟨?_, q.2⟩, i, m, r, by rw [upd_ne (fun z => nls (by rw [z]; exact List.mem_singleton.mpr rfl))]; exact e, h⟩
  have h1 := k.rd q.1 (fun z => q.2 (List.mem_singleton.mp z))
  have ne : sc ≠ l := fun z => by
    rcases q.1 with g | ⟨ob, g⟩ <;> rw [z, hl] at g <;> cases g
  rcases h1 with g | ⟨ob, g⟩
  · exact .inl (by rw [upd_ne ne]; exact g)
  · exact .inr ⟨ob, by rw [upd_ne ne]; exact g⟩
theorem tup_keep {H H' : Hp} {s : Addr} {xs : List V} (k : Keep [s] H H') (hs : H s = some (.lst xs)) : ∀ c ys, H c = some (.tup ys) → H' c = some (.tup ys) := fun c ys e => k c _ e fun z => by
  rw [List.mem_singleton.mp z, hs] at e
  cases e
theorem Drw.tups {K : PySem.W.Frag} {H H' : Hp} {s sc : Addr} {ns : List Int} (d : Drw K H s sc ns) (k : Keep [s] H H') : ∀ c xs, H c = some (.tup xs) → H' c = some (.tup xs) := by
  obtain ⟨i, m, r, e, _⟩ := d.at_
  exact fun c xs h => tup_keep k e c xs h
end Nu
namespace Nu
open PySem PySem.Spec PyProof.Rows L2
theorem sm_seqT {K : PySem.W.Frag} {H H' : Hp} {c : Addr} {xs : List V} (k : Same H H') (h : SqT K H c xs) : SqT K H' c xs := by
  rcases h with (h | ⟨o, h⟩) | h
  · exact .inl (.inl (k _ _ h))
  · exact .inl (.inr ⟨o, k _ _ h⟩)
  · exact .inr h
/-! ### list(zip(a, b)) of two tuples -/
theorem zip_no_len : typeLookup (.type "zip") "__len__" = pure none := am_miss_of_fast (by decide +kernel)
theorem zip_no_hint : typeLookup (.type "zip") "__length_hint__" = pure none := am_miss_of_fast (by decide +kernel)
section
variable {prog : Program} {w : World} {A : Around} {E : Value → Shared → Prop} {s : Shared}
theorem held_step {z u t T j1 j2 la lb : Addr} {fl : Bool} {oT : Obj} {m1 m2 : Nat} {as bs : Array Value} {x y : Value} {Q : Value → Shared → Prop} (D : ZipApart z u t j1 j2 la lb)
    (gz : IsZipHeld s.heap z u t T fl) (gT : s.heap.get? T = some oT) (gu : IsPair s.heap u (.ref j1) (.ref j2))
    (g1 : s.heap.IsTupleIter j1 la m1) (g2 : s.heap.IsTupleIter j2 lb m2) (ga : s.heap.IsTuple la as) (gb : s.heap.IsTuple lb bs) (ex : as[m1]? = some x) (ey : bs[m2]? = some y)
    (hQ : ∀ h', IsZipHeld h' z u t T true → h'.IsTupleIter j1 la (m1 + 1) → h'.IsTupleIter j2 lb (m2 + 1) → IsPair h' s.heap.objs.size x y → h'.objs.size = s.heap.objs.size + 1 →
      (∀ c o, c ≠ z → c ≠ j1 → c ≠ j2 → s.heap.get? c = some o → h'.get? c = some o) → Q (.ref s.heap.objs.size) { s with heap := h' }) :
    wpAny (model prog w) A (Builtin.«zip.__next__» ⟨[.ref z], []⟩) (fun fin s' => ∃ v, fin = .done (.ret v) ∧ Q v s') E s := by
  show wpAny _ A (field (.ref z) 2 >>= _) _ E s
  refine wpAny_bind (wpAny_field gz rfl (x := .bool false) rfl ?_)
  show wpAny _ A (field (.ref z) 3 >>= _) _ E s
  refine wpAny_bind (wpAny_field gz rfl (x := .ref u) rfl ?_)
  refine wpAny_bind (wpAny_seqItems gu rfl ?_)
  show wpAny _ A (Builtin.SmallTypes.ownedTupleIsFree (.ref z) >>= _) _ E s
  refine wpAny_bind (wpAny_tupleHeld_zip gz gT fun ha gza sa => ?_)
  simp only [Bool.false_eq_true, ite_false]
  refine wpAny_bind ?_
  rw [← Array.forIn_toList]
  simp only [List.forIn_nil, List.forIn_cons]
  refine wpAny_bind (wpAny_bind (wpAny_holding (M := model prog w) ?_))
  show wpAny _ A (Builtin.SmallTypes.nextOf (.ref j1) >>= _) _ E _
  refine wpAny_bind (RZ.nextOf_tuple_item (s := { s with heap := ha }) (g1.extBut sa.extBut D.i1z) (ga.extBut sa.extBut D.l1z) ex fun hb gb1 sb => wpAny_pure ?_)
  refine wpAny_pure ?_
  refine wpAny_bind (wpAny_bind (wpAny_holding (M := model prog w) ?_))
  show wpAny _ A (Builtin.SmallTypes.nextOf (.ref j2) >>= _) _ E _
  refine wpAny_bind (RZ.nextOf_tuple_item (s := { s with heap := hb }) ((g2.extBut sa.extBut D.i2z).extBut sb.extBut D.i12.symm) ((gb.extBut sa.extBut D.l2z).extBut sb.extBut D.l2i1) ey fun hc gc2 sc => wpAny_pure ?_)
  refine wpAny_pure (M := model prog w) (wpAny_pure ?_)
  show wpAny _ A (newTuple [x, y] >>= _) _ E _
  refine wpAny_bind (wpAny_newTuple ?_)
  have esz : hc.objs.size = s.heap.objs.size := by rw [sc.1, sb.1, sa.1]
  have gzc : IsZipHeld hc z u t T true := sc.extBut _ _ D.i2z.symm (sb.extBut _ _ D.i1z.symm gza)
  have hk : ∀ c o, c ≠ z → c ≠ j1 → c ≠ j2 → s.heap.get? c = some o → hc.get? c = some o := fun c o n1 n2 n3 e => sc.extBut _ _ n3 (sb.extBut _ _ n2 (sa.extBut _ _ n1 e))
  have gc1 : hc.IsTupleIter j1 la (m1 + 1) := gb1.extBut sc.extBut D.i12
  refine wpAny_pure ⟨.ref hc.objs.size, rfl, ?_⟩
  have gp : IsPair (hc.push { cls := .type "tuple", data := .seq #[x, y] }) hc.objs.size x y := Heap.get?_push_size _ rfl
  have ep : (hc.push { cls := .type "tuple", data := .seq #[x, y] }).objs.size = hc.objs.size + 1 := Heap.size_push ..
  rw [esz] at gp ep ⊢
  exact hQ _ (Heap.get?_push_of_some _ gzc) (gc1.at fun o e => Heap.get?_push_of_some _ e) (gc2.at fun o e => Heap.get?_push_of_some _ e) gp ep fun c o n1 n2 n3 e => Heap.get?_push_of_some _ (hk c o n1 n2 n3 e)
theorem held_last {z u t T j1 j2 la lb : Addr} {fl : Bool} {oT : Obj} {m1 m2 : Nat} {as bs : Array Value} {Q : Fin → Shared → Prop} (nh : A.handled = none) (D : ZipApart z u t j1 j2 la lb)
    (gz : IsZipHeld s.heap z u t T fl) (gT : s.heap.get? T = some oT) (gu : IsPair s.heap u (.ref j1) (.ref j2))
    (g1 : s.heap.IsTupleIter j1 la m1) (g2 : s.heap.IsTupleIter j2 lb m2) (ga : s.heap.IsTuple la as) (gb : s.heap.IsTuple lb bs) (en : as[m1]? = none ∨ bs[m2]? = none)
    (hE : ∀ h' e, (∀ c o, c ≠ z → c ≠ j1 → c ≠ j2 → s.heap.get? c = some o → h'.get? c = some o) → (∃ o, h'.get? e = some o ∧ o.cls = .type "StopIteration") → E (.ref e) { s with heap := h' }) :
    wpAny (model prog w) A (Builtin.«zip.__next__» ⟨[.ref z], []⟩) Q E s := by
  show wpAny _ A (field (.ref z) 2 >>= _) _ E s
  refine wpAny_bind (wpAny_field gz rfl (x := .bool false) rfl ?_)
  show wpAny _ A (field (.ref z) 3 >>= _) _ E s
  refine wpAny_bind (wpAny_field gz rfl (x := .ref u) rfl ?_)
  refine wpAny_bind (wpAny_seqItems gu rfl ?_)
  show wpAny _ A (Builtin.SmallTypes.ownedTupleIsFree (.ref z) >>= _) _ E s
  refine wpAny_bind (wpAny_tupleHeld_zip gz gT fun ha gza sa => ?_)
  simp only [Bool.false_eq_true, ite_false]
  refine wpAny_bind ?_
  rw [← Array.forIn_toList]
  simp only [List.forIn_nil, List.forIn_cons]
  refine wpAny_bind (wpAny_bind (wpAny_holding (M := model prog w) ?_))
  show wpAny _ A (Builtin.SmallTypes.nextOf (.ref j1) >>= _) _ E _
  cases ex : as[m1]? with
  | none =>
    refine wpAny_bind (RZ.nextOf_tuple_end (s := { s with heap := ha }) nh (g1.extBut sa.extBut D.i1z) (ga.extBut sa.extBut D.l1z) ex fun hb e sb he => ?_)
    exact hE hb e (fun c o n1 n2 _ g => sb _ _ n2 (sa.extBut _ _ n1 g)) he
  | some x =>
    have ey : bs[m2]? = none := en.resolve_left fun q => by rw [ex] at q; cases q
    refine wpAny_bind (RZ.nextOf_tuple_item (s := { s with heap := ha }) (g1.extBut sa.extBut D.i1z) (ga.extBut sa.extBut D.l1z) ex fun hb gb1 sb => wpAny_pure ?_)
    refine wpAny_pure ?_
    refine wpAny_bind (wpAny_bind (wpAny_holding (M := model prog w) ?_))
    show wpAny _ A (Builtin.SmallTypes.nextOf (.ref j2) >>= _) _ E _
    refine wpAny_bind (RZ.nextOf_tuple_end (s := { s with heap := hb }) nh ((g2.extBut sa.extBut D.i2z).extBut sb.extBut D.i12.symm) ((gb.extBut sa.extBut D.l2z).extBut sb.extBut D.l2i1) ey fun hc e sc he => ?_)
    exact hE hc e (fun c o n1 n2 n3 g => sc _ _ n3 (sb.extBut _ _ n2 (sa.extBut _ _ n1 g))) he
theorem RZ_item_held {z u t T j1 j2 la lb : Addr} {fl : Bool} {oT : Obj} {m1 m2 : Nat} {as bs : Array Value} {x y : Value} {Q : Option Value → Shared → Prop} (D : ZipApart z u t j1 j2 la lb)
    (gz : IsZipHeld s.heap z u t T fl) (gT : s.heap.get? T = some oT) (gu : IsPair s.heap u (.ref j1) (.ref j2))
    (g1 : s.heap.IsTupleIter j1 la m1) (g2 : s.heap.IsTupleIter j2 lb m2) (ga : s.heap.IsTuple la as) (gb : s.heap.IsTuple lb bs) (ex : as[m1]? = some x) (ey : bs[m2]? = some y)
    (hQ : ∀ h', IsZipHeld h' z u t T true → h'.IsTupleIter j1 la (m1 + 1) → h'.IsTupleIter j2 lb (m2 + 1) → IsPair h' s.heap.objs.size x y → h'.objs.size = s.heap.objs.size + 1 →
      (∀ c o, c ≠ z → c ≠ j1 → c ≠ j2 → s.heap.get? c = some o → h'.get? c = some o) → Q (some (.ref s.heap.objs.size)) { s with heap := h' }) :
    wpAny (model prog w) A (pyNext (.ref z)) Q E s := by
  have ty : s.TypeIs (.ref z) "zip" := ⟨_, gz, rfl⟩
  unfold pyNext
  refine wpAny_bind (wpAny_attempt (wpAny_callSpecial?_slot (name := Str.ofString "__next__") ty F.slot_zip_next (wpAny_call_entry F.slot_zip_next ty F.entry_zip_next ?_ (F.args_zip_next_1 _))))
  exact held_step D gz gT gu g1 g2 ga gb ex ey fun h' b1 b2 b3 b4 b5 b6 => wpAny_pure (hQ h' b1 b2 b3 b4 b5 b6)
theorem RZ_end_held {z u t T j1 j2 la lb : Addr} {fl : Bool} {oT : Obj} {m1 m2 : Nat} {as bs : Array Value} {Q : Option Value → Shared → Prop} (nh : A.handled = none) (D : ZipApart z u t j1 j2 la lb)
    (gz : IsZipHeld s.heap z u t T fl) (gT : s.heap.get? T = some oT) (gu : IsPair s.heap u (.ref j1) (.ref j2))
    (g1 : s.heap.IsTupleIter j1 la m1) (g2 : s.heap.IsTupleIter j2 lb m2) (ga : s.heap.IsTuple la as) (gb : s.heap.IsTuple lb bs) (en : as[m1]? = none ∨ bs[m2]? = none)
    (hQ : ∀ h', (∀ c o, c ≠ z → c ≠ j1 → c ≠ j2 → s.heap.get? c = some o → h'.get? c = some o) → Q none { s with heap := h' }) : wpAny (model prog w) A (pyNext (.ref z)) Q E s := by
  have ty : s.TypeIs (.ref z) "zip" := ⟨_, gz, rfl⟩
  unfold pyNext
  refine wpAny_bind (wpAny_attempt (wpAny_callSpecial?_slot (name := Str.ofString "__next__") ty F.slot_zip_next (wpAny_call_entry F.slot_zip_next ty F.entry_zip_next (held_last nh D gz gT gu g1 g2 ga gb en fun h' e hk he => ?_) (F.args_zip_next_1 _))))
  obtain ⟨oe, he, hc⟩ := he
  exact wpAny_bind (wpAny_isInstance (T := "StopIteration") (b := true) ⟨oe, he, hc⟩ isSubtype_stop (wpAny_pure (hQ _ hk)))
end
/-- the zip z between two turns, the list S being filled -/
structure ZStT (h : Heap) (z TI TO i1 i2 S : Addr) (i : Nat) (a b : Addr) : Prop where
  TI_ : IsPair h TI (.ref i1) (.ref i2)
  h1 : h.IsTupleIter i1 a i
  h2 : h.IsTupleIter i2 b i
  tO : ∃ o, h.get? TO = some o
  zz : (IsZip h z TI TO .none ∧ ∃ x y, IsPair h TO x y) ∨ ∃ (T : Addr) (f : Bool) (oT : Obj), IsZipHeld h z TI TO T f ∧ h.get? T = some oT ∧ T ≠ z ∧ T ≠ i1 ∧ T ≠ i2 ∧ T ≠ S
/-- what has been told of the pairs -/
structure ZLT (H H' : Hp) (xs ys : List V) (S : Addr) (Ts : List Addr) : Prop where
  nS : H S = none
  at_ : H' S = some (.lst (Ts.map V.ref))
  sm : Same H H'
  pr : ∀ (i : Nat) (T : Addr) (x y : V), Ts[i]? = some T → xs[i]? = some x → ys[i]? = some y → H T = none ∧ H' T = some (.tup [x, y])
section
variable {X : Cx} {pins : List (Addr × Obj)} {σ : L2.St} {A : Around} {R : Result → Shared → Prop} {z TI TO i1 i2 a b S : Addr} {xs ys : List V} {H0 : Hp}
theorem zl_loopT (hh : A.in1.handled = none) (D : ZipApart z TI TO i1 i2 a b) (hS : ∀ c ∈ [z, TI, TO, i1, i2], c ≠ S) (hl : xs.length = ys.length) (hb : xs.length ≤ 1000) (qa : SqT X.K H0 a xs) (qb : SqT X.K H0 b ys) :
    ∀ (k j : Nat) (s : Shared) (Hj : Hp) (Ts : List Addr) (acc : Array Value) (c : Nat), xs.length - j = k → j ≤ xs.length → Ts.length = j → Inv X pins σ Hj s → (∀ c ∈ [z, TI, TO, i1, i2], FpOk X pins Hj c) → ZStT s.heap z TI TO i1 i2 S j a b →
      s.heap.get? S = some { cls := .type "list", dict := none, data := .seq acc c, slots := #[] } → Vals (Ts.map V.ref) acc.toList → ZLT H0 Hj xs ys S Ts →
      (∀ s' H' Ts', Inv X pins σ H' s' → Ts'.length = xs.length → ZLT H0 H' xs ys S Ts' → R (.ok (.ret .none)) s') →
      codeAny (model X.prog X.w) A (.builtin "list.extend.loop" ⟨[.ref S, .ref z, .none], []⟩) R s := by
  have hz : ∀ {c : Addr}, c = z ∨ c = TI ∨ c = TO ∨ c = i1 ∨ c = i2 → c ∈ [z, TI, TO, i1, i2] := fun h => by simpa using h
  intro k
  induction k with
  | zero =>
    intro j s Hj Ts acc c hk hj ht I hf st hs hv L hR
    have hjn : j = xs.length := by omega
    subst hjn
    obtain ⟨its, rv, p, _⟩ := I.tuple (sm_seqT L.sm qa)
    obtain ⟨its2, rv2, p2, _⟩ := I.tuple (sm_seqT L.sm qb)
    have l1 := rv.length
    refine codeAny_builtin F.entry_extend_loop ?_
    rw [Around.under_plainId F.plain_extend_loop _]
    show wpAny _ A.in1 (pyNext (.ref z) >>= _) _ _ s
    have he : its.toArray[xs.length]? = none ∨ its2.toArray[xs.length]? = none := .inl (by simp; omega)
    rcases st.zz with ⟨hz', x, y, hTO⟩ | ⟨T, f, oT, hz', hT, r1, r2, r3, r4⟩
    · refine wpAny_bind (RZ.pyNext_zipT_end hh D hz' st.TI_ hTO st.h1 st.h2 p p2 he fun h' hk => ?_)
      refine wpAny_pure (hR _ Hj Ts ?_ ht L)
      exact I.turnedL (t' := s.toks) (ch := [z, TI, TO, i1, i2]) (fun c o hb q => hk c o (fun q' => hb (hz (.inl q'))) (fun q' => hb (hz (.inr (.inr (.inl q'))))) (fun q' => hb (hz (.inr (.inr (.inr (.inl q')))))) (fun q' => hb (hz (.inr (.inr (.inr (.inr q')))))) q) hf
    · refine wpAny_bind (RZ_end_held hh D hz' hT st.TI_ st.h1 st.h2 p p2 he fun h' hk => ?_)
      refine wpAny_pure (hR _ Hj Ts ?_ ht L)
      exact I.turnedL (t' := s.toks) (ch := [z, TI, TO, i1, i2]) (fun c o hb q => hk c o (fun q' => hb (hz (.inl q'))) (fun q' => hb (hz (.inr (.inr (.inr (.inl q')))))) (fun q' => hb (hz (.inr (.inr (.inr (.inr q')))))) q) hf
  | succ k ih =>
    intro j s Hj Ts acc c hk hj ht I hf st hs hv L hR
    have hlt : j < xs.length := by omega
    have hx : xs[j]? = some xs[j] := List.getElem?_eq_getElem hlt
    have hy : ys[j]? = some (ys[j]'(by omega)) := List.getElem?_eq_getElem _
    obtain ⟨its, rv, p, _⟩ := I.tuple (sm_seqT L.sm qa)
    obtain ⟨its2, rv2, p2, _⟩ := I.tuple (sm_seqT L.sm qb)
    obtain ⟨u, hu, ru⟩ := rv.get hx
    obtain ⟨u2, hu2, ru2⟩ := rv2.get hy
    have lacc : acc.size = j := by
      rw [← Array.length_toList, ← hv.length, List.length_map, ht]
    refine codeAny_builtin F.entry_extend_loop ?_
    rw [Around.under_plainId F.plain_extend_loop _]
    show wpAny _ A.in1 (pyNext (.ref z) >>= _) _ _ s
    have lt : ∀ {c : Addr} {o : Obj}, s.heap.get? c = some o → s.heap.objs.size ≠ c := fun e => Nat.ne_of_gt (Heap.lt_size e)
    have go : ∀ h', (∀ c o, c ∉ [z, TI, TO, i1, i2] → s.heap.get? c = some o → h'.get? c = some o) → (∃ o, h'.get? TO = some o) → IsPair h' TI (.ref i1) (.ref i2) → h'.IsTupleIter i1 a (j + 1) → h'.IsTupleIter i2 b (j + 1) → IsPair h' s.heap.objs.size u u2 →
        (∃ (T : Addr) (f : Bool) (oT : Obj), IsZipHeld h' z TI TO T f ∧ h'.get? T = some oT ∧ T ≠ z ∧ T ≠ i1 ∧ T ≠ i2 ∧ T ≠ S) →
        wpAny (model X.prog X.w) A.in1 (updateSeq S (·.push (.ref s.heap.objs.size)) >>= fun _ => again (.builtin "list.extend.loop" ⟨[.ref S, .ref z, .none], []⟩))
          (fun fin s' => match fin with | .done f => R (.ok f) s' | .again c' => c'.quiet = true ∧ codeAny (model X.prog X.w) A c' R s') (fun e s' => R (.error e) s') { s with heap := h' } := by
      intro h' hk' a0 a1 a2 a3 a4 a5
      have SS : S ∉ [z, TI, TO, i1, i2] := fun h => hS S h rfl
      have hs' := hk' S _ SS hs
      have new : ObjOk X.prog X.w (upd Hj s.heap.objs.size (.tup [xs[j], ys[j]'(by omega)])) h' s.heap.objs.size (.tup [xs[j], ys[j]'(by omega)]) :=
        ⟨by show 2 ≤ sizeLine; decide, [u, u2], .cons ru (.cons ru2 .nil), ⟨_, a4, rfl, _, rfl⟩⟩
      have nT : Hj s.heap.objs.size = none := I.hok.fresh (Nat.le_refl _)
      have I1 : Inv X pins σ (upd Hj s.heap.objs.size (.tup [xs[j], ys[j]'(by omega)])) { s with heap := h' } :=
        I.turnedNew (t' := s.toks) (ch := [z, TI, TO, i1, i2]) hk' hf (Nat.le_refl _) new
      have TS : S ≠ s.heap.objs.size := Ne.symm (lt hs)
      have eS : (upd Hj s.heap.objs.size (.tup [xs[j], ys[j]'(by omega)])) S = some (.lst (Ts.map V.ref)) := by
        rw [upd_ne TS]
        exact L.at_
      have hS2 := Heap.get?_update_self (Obj.mapSeq (·.push (Value.ref s.heap.objs.size))) hs' rfl
      have oth : ∀ b u, b ≠ S → h'.get? b = some u → (h'.update S (Obj.mapSeq (·.push (Value.ref s.heap.objs.size)))).get? b = some u := fun b u hb e => (Heap.get?_update_other _ _ (Ne.symm hb)).trans e
      have hv2 : Vals ((Ts ++ [s.heap.objs.size]).map V.ref) (acc.push (.ref s.heap.objs.size)).toList := by
        rw [List.map_append, Array.toList_push]
        exact hv.append (.cons rfl .nil)
      have I2 : Inv X pins σ (upd (upd Hj s.heap.objs.size (.tup [xs[j], ys[j]'(by omega)])) S (.lst ((Ts ++ [s.heap.objs.size]).map V.ref))) { s with heap := h'.update S (Obj.mapSeq (·.push (Value.ref s.heap.objs.size))) } := by
        have hS3 : ∃ n, (h'.update S (Obj.mapSeq (·.push (Value.ref s.heap.objs.size)))).get? S = some { cls := .type "list", data := .seq (acc.push (.ref s.heap.objs.size)).toList.toArray n } := by
          rw [Array.toArray_toList]
          exact ⟨_, hS2⟩
        obtain ⟨n3, hS3⟩ := hS3
        refine I1.write (t' := s.toks) (by rw [eS]; exact True.intro) (.inl rfl) oth ⟨_, hS2⟩ ⟨?_, _, n3, hv2, ?_⟩
        · refine Nat.le_of_lt (small1000 ?_)
          rw [List.length_map, List.length_append, ht]
          show j + 1 ≤ 1000
          omega
        · exact hS3
      refine wpAny_bind (wpAny_updateSeq hs' rfl (wpAny_pure ⟨plainId_quiet F.plain_extend_loop _, ?_⟩) (by rw [lacc]; exact Nat.le_of_lt (small1000 (by omega))) (by show (acc.push _).size ≤ sizeLine + 1; rw [Array.size_push, lacc]; have := small1000 (n := j) (by omega); omega))
      refine ih (j + 1) _ _ (Ts ++ [s.heap.objs.size]) _ _ (by omega) hlt (by rw [List.length_append, ht]; rfl) I2 (fun c hc => ?_) ?_ hS2 hv2 ?_ hR
      · have h1 := hf c hc
        have c1 : c ≠ S := hS c hc
        have c2 : c ≠ s.heap.objs.size := fun q => by
          have h5 : c = z ∨ c = TI ∨ c = TO ∨ c = i1 ∨ c = i2 := by simpa using hc
          rcases h5 with e | e | e | e | e
          · rcases st.zz with ⟨hz', _⟩ | ⟨T, f, oT, hz', _⟩
            · exact lt hz' (e ▸ q).symm
            · exact lt hz' (e ▸ q).symm
          · exact lt st.TI_ (e ▸ q).symm
          · obtain ⟨o, ho⟩ := st.tO
            exact lt ho (e ▸ q).symm
          · obtain ⟨o, ho, _⟩ := st.h1
            exact lt ho (e ▸ q).symm
          · obtain ⟨o, ho, _⟩ := st.h2
            exact lt ho (e ▸ q).symm
        exact ⟨by rw [upd_ne c1, upd_ne c2]; exact h1.1, h1.2⟩
      · obtain ⟨T, f, oT, b1, b2, b3, b4, b5, b6⟩ := a5
        obtain ⟨oO, hO⟩ := a0
        exact ⟨oth _ _ (hS TI (by simp)) a1, a2.at fun o e => oth _ o (hS i1 (by simp)) e, a3.at fun o e => oth _ o (hS i2 (by simp)) e, ⟨oO, oth _ _ (hS TO (by simp)) hO⟩, .inr ⟨T, f, oT, oth _ _ (hS z (by simp)) b1, oth _ _ b6 b2, b3, b4, b5, b6⟩⟩
      · have n0 : H0 s.heap.objs.size = none := by
          cases e : H0 s.heap.objs.size with
          | none => rfl
          | some o =>
            rw [L.sm _ _ e] at nT
            cases nT
        refine ⟨L.nS, upd_same, fun c o e => ?_, fun i T x y e1 e2 e3 => ?_⟩
        · rw [upd_ne (fun q => by rw [q, L.nS] at e; cases e), upd_ne (fun q => by rw [q, n0] at e; cases e)]
          exact L.sm c o e
        · by_cases c : i < Ts.length
          · rw [List.getElem?_append_left c] at e1
            obtain ⟨h1, h2⟩ := L.pr i T x y e1 e2 e3
            refine ⟨h1, ?_⟩
            rw [upd_ne (fun q => by rw [q, L.at_] at h2; cases h2), upd_ne (fun q => by rw [q, nT] at h2; cases h2)]
            exact h2
          · rw [List.getElem?_append_right (by omega)] at e1
            have hi := (List.getElem?_eq_some_iff.mp e1).1
            simp only [List.length_cons, List.length_nil] at hi
            have hi : i - Ts.length = 0 := by omega
            rw [hi] at e1
            cases e1
            have ij : i = j := by omega
            subst ij
            rw [hx] at e2
            rw [hy] at e3
            cases e2
            cases e3
            refine ⟨n0, ?_⟩
            rw [upd_ne (Ne.symm TS), upd_same]
    have n1 : s.heap.objs.size ≠ i1 := let ⟨_, e, _⟩ := st.h1; lt e
    have n2 : s.heap.objs.size ≠ i2 := let ⟨_, e, _⟩ := st.h2; lt e
    rcases st.zz with ⟨hz', x, y, hTO⟩ | ⟨T, f, oT, hz', hT, r1, r2, r3, r4⟩
    · refine wpAny_bind (RZ.pyNext_zipT_item D hz' st.TI_ hTO st.h1 st.h2 p p2 (x := u) (y := u2) (by simpa using hu) (by simpa using hu2) fun h' a1 a2 a3 a4 a5 a6 hk => ?_)
      refine go h' (fun c o hc e => hk c o (fun q' => hc (hz (.inl q'))) (fun q' => hc (hz (.inr (.inr (.inl q'))))) (fun q' => hc (hz (.inr (.inr (.inr (.inl q')))))) (fun q' => hc (hz (.inr (.inr (.inr (.inr q')))))) e) ⟨_, a2⟩ (hk _ _ D.TIz D.TITO D.TIi1 D.TIi2 st.TI_) a3 a4 a5 ⟨s.heap.objs.size, false, _, a1, a5, lt hz', n1, n2, lt hs⟩
    · refine wpAny_bind (RZ_item_held D hz' hT st.TI_ st.h1 st.h2 p p2 (x := u) (y := u2) (by simpa using hu) (by simpa using hu2) fun h' a1 a3 a4 a5 a6 hk => ?_)
      obtain ⟨oO, hO⟩ := st.tO
      refine go h' (fun c o hc e => hk c o (fun q' => hc (hz (.inl q'))) (fun q' => hc (hz (.inr (.inr (.inr (.inl q')))))) (fun q' => hc (hz (.inr (.inr (.inr (.inr q')))))) e) ⟨oO, hk _ _ D.TOz D.TOi1 D.TOi2 hO⟩ (hk _ _ D.TIz D.TIi1 D.TIi2 st.TI_) a3 a4 a5 ⟨T, true, oT, a1, hk _ _ r1 r2 r3 hT, r1, r2, r3, r4⟩
end
section
variable {X : Cx} {pins : List (Addr × Obj)} {σ : L2.St} {H : Hp} {s : Shared} {z TI TO i1 i2 a b : Addr} {xs ys : List V} {E : Value → Shared → Prop} {Q' : Value → Shared → Prop}
/-- list(z), z a zip that was just made -/
theorem call_list_zipT (hc : X.calm = true) (D : ZipApart z TI TO i1 i2 a b) (hl : xs.length = ys.length) (hb : xs.length ≤ 1000) (qa : SqT X.K H a xs) (qb : SqT X.K H b ys) (I : Inv X pins σ H s) (hf : ∀ c ∈ [z, TI, TO, i1, i2], FpOk X pins H c)
    (hzz : IsZip s.heap z TI TO .none) (hTI : IsPair s.heap TI (.ref i1) (.ref i2)) (hTO : ∃ x y, IsPair s.heap TO x y) (h1 : s.heap.IsTupleIter i1 a 0) (h2 : s.heap.IsTupleIter i2 b 0)
    (hQ : ∀ S s' H' Ts, Inv X pins σ H' s' → Ts.length = xs.length → ZLT H H' xs ys S Ts → Q' (.ref S) s') :
    wpAny (model X.prog X.w) X.A (call (.type "list") [.ref z]) Q' E s := by
  have hSz : ∀ c ∈ [z, TI, TO, i1, i2], c ≠ s.heap.objs.size := fun c hc q => by
    have h5 : c = z ∨ c = TI ∨ c = TO ∨ c = i1 ∨ c = i2 := by simpa using hc
    have lt : ∀ {c : Addr} {o : Obj}, s.heap.get? c = some o → c ≠ s.heap.objs.size := fun e => Nat.ne_of_lt (Heap.lt_size e)
    rcases h5 with e | e | e | e | e
    · exact lt hzz (e ▸ q)
    · exact lt hTI (e ▸ q)
    · obtain ⟨x, y, hTO⟩ := hTO
      exact lt hTO (e ▸ q)
    · obtain ⟨o, ho, _⟩ := h1
      exact lt ho (e ▸ q)
    · obtain ⟨o, ho, _⟩ := h2
      exact lt ho (e ▸ q)
  have hSa : s.heap.objs.size ≠ z := Ne.symm (hSz z (by simp))
  refine callType_codes (Q₁ := fun obj s₁ => obj = .ref s.heap.objs.size ∧ s₁ = { s with heap := s.heap.push { cls := .type "list", data := .seq #[] } }) F.called_list (F.typeCall_list_1 _) F.entry_list_init
    (code_list_new _ ⟨rfl, rfl⟩) fun obj s₁ h₁ => ?_
  obtain ⟨rfl, rfl⟩ := h₁
  have hS : (s.heap.push { cls := .type "list", data := .seq #[] }).get? s.heap.objs.size = some { cls := .type "list", data := .seq #[] } := Heap.get?_push_size _ rfl
  refine ⟨⟨_, hS, rfl⟩, F.args_list_init_2 _ _, ?_⟩
  show wpAny _ X.A.in1.in1 (do let old ← Builtin.List.listItems (.ref s.heap.objs.size); Builtin.List.listUpdate (.ref s.heap.objs.size) (fun _ => #[]); letGo old.toList.reverse; Builtin.List.listExtendWith (.ref s.heap.objs.size) (.ref z) .none) _ _ _
  refine wpAny_bind ?_
  unfold Builtin.List.listItems
  refine wpAny_bind (wpAny_seqItems hS rfl (wpAny_pure ?_))
  show wpAny _ X.A.in1.in1 (updateSeq s.heap.objs.size (fun _ => #[]) >>= fun _ => letGo (#[] : Array Value).toList.reverse >>= fun _ => Builtin.List.listExtendWith (.ref s.heap.objs.size) (.ref z) .none) _ _ _
  refine wpAny_bind (wpAny_updateSeq hS rfl ?_)
  have hS2 := Heap.get?_update_self (Obj.mapSeq (fun _ => (#[] : Array Value))) hS rfl
  refine wpAny_bind (wpAny_letGo ?_)
  unfold Builtin.List.listExtendWith
  have up : ∀ (h : Heap) (f : Obj → Obj), (∀ b o, s.heap.get? b = some o → h.get? b = some o) → ∀ b o, s.heap.get? b = some o → (h.update s.heap.objs.size f).get? b = some o := fun h f q b o e =>
    (Heap.get?_update_other _ _ (Ne.symm (Nat.ne_of_lt (Heap.lt_size e)))).trans (q b o e)
  have k1 : ∀ b o, s.heap.get? b = some o → (s.heap.push { cls := .type "list", data := .seq #[] }).get? b = some o := fun b o e => Heap.get?_push_of_some _ e
  have k2 := up _ (Obj.mapSeq (fun _ => (#[] : Array Value))) k1
  refine wpAny_bind (wpAny_typeOf (T := "zip") ⟨_, k2 _ _ hzz, rfl⟩ ?_)
  have e1 : Builtin.List.listSameRef (.ref s.heap.objs.size) (.ref z) = false := by simp [Builtin.List.listSameRef, hSa]
  have e2 : (Value.type "zip" == Value.type "list") = false := by decide
  have e3 : (Value.type "zip" == Value.type "tuple") = false := by decide
  simp only [e1, e2, e3, Bool.or_false, Bool.false_eq_true, if_false]
  refine wpAny_bind (wpAny_pyIter_zip (s := { s with heap := _ }) (k2 _ _ hzz) ?_)
  refine wpAny_bind (wpAny_holding ?_)
  unfold Builtin.List.listLengthHint
  refine wpAny_bind (wpAny_specialOf (T := "zip") ⟨_, k2 _ _ hzz, rfl⟩ zip_no_len ?_)
  show wpAny _ X.A.in1.in1 (specialOf (Value.ref z) (Str.ofString "__length_hint__") >>= _) _ _ _
  refine wpAny_bind (wpAny_specialOf (T := "zip") ⟨_, k2 _ _ hzz, rfl⟩ zip_no_hint ?_)
  refine wpAny_pure ?_
  show wpAny _ X.A.in1.in1 (rule "list.extend.makes-room" >>= fun _ => Builtin.List.listTouch (.ref s.heap.objs.size) >>= fun _ =>
    again (.builtin "list.extend.loop" ⟨[.ref s.heap.objs.size, .ref z, .none], []⟩)) _ _ _
  refine wpAny_bind (wpAny_rule ?_)
  refine wpAny_bind ?_
  show wpAny _ X.A.in1.in1 (updateSeq s.heap.objs.size (·.push .none) >>= fun _ => updateSeq s.heap.objs.size (·.pop)) _ _ _
  refine wpAny_bind (wpAny_updateSeq hS2 rfl ?_)
  have hS3 := Heap.get?_update_self (Obj.mapSeq (·.push Value.none)) hS2 rfl
  refine wpAny_updateSeq (hz := by seq_fits) hS3 rfl ?_
  have hS4 := Heap.get?_update_self (Obj.mapSeq (·.pop)) hS3 rfl
  have k4 := up _ (Obj.mapSeq (·.pop)) (up _ (Obj.mapSeq (·.push Value.none)) k2)
  refine wpAny_pure ⟨plainId_quiet F.plain_extend_loop _, ?_⟩
  have nS : H s.heap.objs.size = none := I.hok.fresh (Nat.le_refl _)
  have I4 := I.laid (a := s.heap.objs.size) (o := .lst ([] : List V)) (t' := s.toks) k4 (Nat.le_refl _) ⟨Nat.zero_le _, [], _, .nil, hS4⟩
  obtain ⟨x0, y0, hTO⟩ := hTO
  refine zl_loopT (H0 := H) (xs := xs) (ys := ys) (a := a) (b := b) (by first | exact I.ok.hd hc | rfl | exact Around.in1_handled (I.ok.hd hc)) D (fun c hc => hSz c hc) hl hb qa qb _ 0 _ _ [] _ _ rfl (Nat.zero_le _) rfl I4 (fun c hc => ⟨by rw [upd_ne (hSz c hc)]; exact (hf c hc).1, (hf c hc).2⟩)
    ⟨k4 _ _ hTI, h1.at fun o e => k4 _ o e, h2.at fun o e => k4 _ o e, ⟨_, k4 _ _ hTO⟩, .inl ⟨k4 _ _ hzz, x0, y0, k4 _ _ hTO⟩⟩ hS4 .nil ⟨nS, upd_same, same_upd nS, fun i T x y e _ _ => by simp at e⟩ fun s' H' Ts' I' ht' L' => ⟨rfl, hQ _ s' H' Ts' I' ht' L'⟩
end
def tListZipT (K : PySem.W.Frag) (ta : L2.TA) : TE := fun σ H Q => ta σ H fun vs H1 => ∃ (a b : Addr) (xs ys : List V), vs = [.ref a, .ref b] ∧ SqT K H1 a xs ∧ SqT K H1 b ys ∧ xs.length = ys.length ∧ xs.length ≤ 1000 ∧ ∀ S Ts H', Ts.length = xs.length → ZLT H1 H' xs ys S Ts → Q (.ref S) H'
/-- list(zip(a, b)) -/
theorem pe_listZipT {X : Cx} {e e2 : Expr} {ta : L2.TA} {p p2 q pos : Pos} (hg : Gl X "list") (hm : X.mg "list" = none) (hg2 : Gl X "zip") (hm2 : X.mg "zip" = none) (ha : PA X [e, e2] ta) (hc : X.calm = true := by rfl)
    (na : starEach [.Call (.Name "zip" p2) [e, e2] [] q] X.env = (false, eval (.Call (.Name "zip" p2) [e, e2] [] q) X.env) :: starEach [] X.env := by rfl)
    (hs : starEach [e, e2] X.env = (false, eval e X.env) :: starEach [e2] X.env := by rfl) (hpl : (backTo q (starEach [e2] X.env)).any (·.1) = false := by rfl) :
    PE X (.Call (.Name "list" p) [.Call (.Name "zip" p2) [e, e2] [] q] [] pos) (tListZipT X.K ta) := by
  refine ⟨fun pins s σ H Q I h => ?_⟩
  refine Call_ (ld_blt I hg hm boot_list ?_)
  refine PyProof.Rows.callWith_type1 (PyProof.Rows.args_cons ?_ na) na rfl
  refine Call_ (ld_blt I hg2 hm2 PyProof.Rows.boot_zip (PyProof.Rows.callWith_type1 (thn (ha.run q pins s σ H _ I h) fun us s1 ⟨vs, H1, I1, r1, q1⟩ => ?_) hs hpl))
  obtain ⟨a, b, xs, ys, ex, hqx, hqy, hl, hb, q1⟩ := q1
  subst ex
  cases r1 with
  | cons r rr =>
    cases rr with
    | cons r' rr =>
      cases rr
      cases r
      cases r'
      obtain ⟨its, rv, p1, _⟩ := I1.tuple hqx
      obtain ⟨its2, rv2, p2, _⟩ := I1.tuple hqy
      have la : a < s1.heap.objs.size := let ⟨_, e, _⟩ := p1; Heap.lt_size e
      have lb : b < s1.heap.objs.size := let ⟨_, e, _⟩ := p2; Heap.lt_size e
      refine RZ.call_zipT p1 p2 fun h' hz hTI hTO h1 h2 hsz hk => PyProof.Rows.args_nil ?_
      have I2 : Inv X pins σ H1 { s1 with heap := h' } := I1.kept (t' := s1.toks) hk
      refine call_list_zipT (s := { s1 with heap := h' }) hc (PySem.W.ktu_apart s1.heap.objs.size a b la lb) hl hb hqx hqy I2 (fun c hcm => ?_) hz hTI ⟨_, _, hTO⟩ h1 h2 fun S s' H' Ts I' ht L => ⟨.ref S, H', I', rfl, q1 S Ts H' ht L⟩
      have e' : c = s1.heap.objs.size + 4 ∨ c = s1.heap.objs.size + 2 ∨ c = s1.heap.objs.size + 3 ∨ c = s1.heap.objs.size ∨ c = s1.heap.objs.size + 1 := by simpa using hcm
      have hle : s1.heap.objs.size ≤ c := by
        rcases e' with z | z | z | z | z
        · rw [z]; exact Nat.le_add_right _ _
        · rw [z]; exact Nat.le_add_right _ _
        · rw [z]; exact Nat.le_add_right _ _
        · rw [z]; exact Nat.le_refl _
        · rw [z]; exact Nat.le_add_right _ _
      exact I1.fpOk hle (I1.hok.fresh hle)
end Nu
namespace Nu
open PySem PySem.Spec PyProof.Rows L2
def feas (lw hg : Nat → Int) (n k : Nat) (c x : Int) : Prop := 0 ≤ c - (sumF lw n - lw k + x) ∧ c - (sumF lw n - lw k + x) ≤ cap lw hg k n
instance {lw hg : Nat → Int} {n k : Nat} {c x : Int} : Decidable (feas lw hg n k c x) := by
  unfold feas
  exact inferInstance
theorem feas_iff {lw hg : Nat → Int} {n k : Nat} {c x : Int} (hk : k < n) (hle : ∀ i, i < n → lw i ≤ hg i) (h1 : sumF lw n ≤ c) (h2 : c ≤ sumF hg n) :
    (lw k ≤ x ∧ x ≤ hg k ∧ feas lw hg n k c x) ↔ bLo (sumF hg n) (some c) (lw k) (hg k) ≤ x ∧ x ≤ bHi (sumF lw n) (some c) (lw k) (hg k) := by
  unfold feas
  rw [cap_eq, if_pos hk]
  have := hle k hk
  show _ ↔ (if hg k - (sumF hg n - c) > lw k then hg k - (sumF hg n - c) else lw k) ≤ x ∧ x ≤ (if lw k + (c - sumF lw n) < hg k then lw k + (c - sumF lw n) else hg k)
  by_cases a1 : hg k - (sumF hg n - c) > lw k
  · rw [if_pos a1]
    by_cases a2 : lw k + (c - sumF lw n) < hg k
    · rw [if_pos a2]
      omega
    · rw [if_neg a2]
      omega
  · rw [if_neg a1]
    by_cases a2 : lw k + (c - sumF lw n) < hg k
    · rw [if_pos a2]
      omega
    · rw [if_neg a2]
      omega
theorem lo_hi {lw hg : Nat → Int} {n k : Nat} {c : Int} (hk : k < n) (hle : ∀ i, i < n → lw i ≤ hg i) (h1 : sumF lw n ≤ c) (h2 : c ≤ sumF hg n) :
    bLo (sumF hg n) (some c) (lw k) (hg k) ≤ bHi (sumF lw n) (some c) (lw k) (hg k) := by
  have hc := cap_nn (lw := lw) (hg := hg) (k := k) (n := n) hle
  rw [cap_eq, if_pos hk] at hc
  have := hle k hk
  show (if hg k - (sumF hg n - c) > lw k then hg k - (sumF hg n - c) else lw k) ≤ (if lw k + (c - sumF lw n) < hg k then lw k + (c - sumF lw n) else hg k)
  by_cases a1 : hg k - (sumF hg n - c) > lw k
  · rw [if_pos a1]
    by_cases a2 : lw k + (c - sumF lw n) < hg k
    · rw [if_pos a2]
      omega
    · rw [if_neg a2]
      omega
  · rw [if_neg a1]
    by_cases a2 : lw k + (c - sumF lw n) < hg k
    · rw [if_pos a2]
      omega
    · rw [if_neg a2]
      omega
theorem rng_filter : ∀ (m : Nat) (a b lo hi : Int), (b + 1 - a).toNat = m → (rng a b).filter (fun x => decide (lo ≤ x ∧ x ≤ hi)) = rng (mx a lo) (mn b hi)
  | 0, a, b, lo, hi, h => by
    rw [rng_nil (by omega), rng_nil]
    · rfl
    · have h1 := (mx_le (x := a) (y := lo) (z := mx a lo)).mp (Int.le_refl _)
      have h2 := (le_mn (x := b) (y := hi) (z := mn b hi)).mp (Int.le_refl _)
      omega
  | m + 1, a, b, lo, hi, h => by
    rw [rng_cons (by omega), List.filter_cons, rng_filter m (a + 1) b lo hi (by omega)]
    have h2 := (le_mn (x := b) (y := hi) (z := mn b hi)).mp (Int.le_refl _)
    by_cases c1 : lo ≤ a
    · have e1 : mx a lo = a := by unfold mx; rw [if_neg (by omega)]
      have e2 : mx (a + 1) lo = a + 1 := by unfold mx; rw [if_neg (by omega)]
      rw [e1, e2]
      by_cases c2 : a ≤ hi
      · rw [if_pos (decide_eq_true ⟨c1, c2⟩), rng_cons (a := a) (le_mn.mpr ⟨by omega, c2⟩)]
      · rw [if_neg (by rw [decide_eq_true_eq]; omega), rng_nil (by omega), rng_nil (by omega)]
    · rw [if_neg (by rw [decide_eq_true_eq]; omega)]
      have e1 : mx a lo = lo := by unfold mx; rw [if_pos (by omega)]
      have e2 : mx (a + 1) lo = lo := by
        unfold mx
        by_cases q : lo > a + 1
        · rw [if_pos q]
        · rw [if_neg q]; omega
      rw [e1, e2]
def ext1 (p : List Int) (vs : List Int) : List (List Int) := vs.map fun v => p ++ [v]
def wAll (lw hg : Nat → Int) : Nat → List (List Int)
  | 0 => [[]]
  | n + 1 => (wAll lw hg n).flatMap fun p => ext1 p (rng (lw n) (hg n))
theorem mem_wAll {lw hg : Nat → Int} : ∀ {n : Nat} {x : List Int}, x ∈ wAll lw hg n ↔ ∃ f : Nat → Int, x = LI f n ∧ ∀ i, i < n → lw i ≤ f i ∧ f i ≤ hg i
  | 0, x => by
    constructor
    · intro h
      have h : x ∈ ([[]] : List (List Int)) := h
      rw [List.mem_singleton.mp h]
      exact ⟨fun _ => 0, rfl, fun i hi => absurd hi (Nat.not_lt_zero _)⟩
    · rintro ⟨f, rfl, _⟩
      exact List.mem_singleton.mpr rfl
  | n + 1, x => by
    show x ∈ (wAll lw hg n).flatMap _ ↔ _
    rw [List.mem_flatMap]
    constructor
    · rintro ⟨p, hp, hx⟩
      obtain ⟨f, rfl, hf⟩ := mem_wAll.mp hp
      obtain ⟨v, hv, rfl⟩ := List.mem_map.mp hx
      refine ⟨fun i => if i = n then v else f i, ?_, fun i hi => ?_⟩
      · rw [LI_succ, LI_congr (f := fun i => if i = n then v else f i) (g := f) fun i hi => if_neg (by omega)]
        show LI f n ++ [v] = LI f n ++ [if n = n then v else f n]
        rw [if_pos rfl]
      · show lw i ≤ (if i = n then v else f i) ∧ (if i = n then v else f i) ≤ hg i
        by_cases c : i = n
        · subst c
          rw [if_pos rfl]
          exact mem_rng.mp hv
        · rw [if_neg c]
          exact hf i (by omega)
    · rintro ⟨f, rfl, hf⟩
      refine ⟨LI f n, mem_wAll.mpr ⟨f, rfl, fun i hi => hf i (by omega)⟩, ?_⟩
      rw [LI_succ]
      exact List.mem_map.mpr ⟨f n, mem_rng.mpr (hf n (by omega)), rfl⟩
def fitC (lw hg : Nat → Int) (n : Nat) (c : Option Int) (j : Nat) (p : List Int) : Bool := match c with
  | none => true
  | some c => decide (p.sum + (sumF lw n - sumF lw j) ≤ c ∧ c ≤ p.sum + (sumF hg n - sumF hg j))
def loN (lw hg : Nat → Int) (n : Nat) (c : Option Int) (p : List Int) (j : Nat) : Int := match c with
  | none => lw j
  | some c => mx (lw j) (c - p.sum - (sumF hg n - sumF hg (j + 1)))
def hiN (lw hg : Nat → Int) (n : Nat) (c : Option Int) (p : List Int) (j : Nat) : Int := match c with
  | none => hg j
  | some c => mn (hg j) (c - p.sum - (sumF lw n - sumF lw (j + 1)))
def okC (c : Option Int) (p : List Int) : Bool := match c with
  | none => true
  | some c => decide (p.sum = c)
def wStart (lw hg : Nat → Int) (n : Nat) (c : Option Int) (j : Nat) : List (List Int) := (wAll lw hg j).filter (fitC lw hg n c j)
theorem filter_map' {α β : Type} (f : α → β) (q : β → Bool) : ∀ l : List α, (l.map f).filter q = (l.filter fun x => q (f x)).map f
  | [] => rfl
  | x :: r => by
    rw [List.map_cons, List.filter_cons, List.filter_cons, filter_map' f q r]
    by_cases h : q (f x) = true
    · rw [if_pos h, if_pos h, List.map_cons]
    · rw [if_neg h, if_neg h]
theorem filter_flat {α β : Type} {r : α → Bool} {q : β → Bool} {g f : α → List β} : ∀ l : List α, (∀ x ∈ l, (f x).filter q = if r x = true then g x else []) → (l.flatMap f).filter q = (l.filter r).flatMap g
  | [], _ => rfl
  | x :: t, h => by
    rw [List.flatMap_cons, List.filter_append, h x List.mem_cons_self, filter_flat t fun y hy => h y (List.mem_cons_of_mem _ hy), List.filter_cons]
    by_cases c : r x = true
    · rw [if_pos c, if_pos c, List.flatMap_cons]
    · rw [if_neg c, if_neg c, List.nil_append]
theorem ext1_filter {lw hg : Nat → Int} {n j : Nat} {c : Option Int} {p : List Int} (hle : lw j ≤ hg j) :
    (ext1 p (rng (lw j) (hg j))).filter (fitC lw hg n c (j + 1)) = if fitC lw hg n c j p = true then ext1 p (rng (loN lw hg n c p j) (hiN lw hg n c p j)) else [] := by
  cases c with
  | none =>
    rw [if_pos (show fitC lw hg n none j p = true from rfl)]
    exact List.filter_eq_self.mpr fun _ _ => rfl
  | some c =>
    have e1 : sumF lw (j + 1) = sumF lw j + lw j := rfl
    have e2 : sumF hg (j + 1) = sumF hg j + hg j := rfl
    unfold ext1
    rw [filter_map']
    have e : (fun v => fitC lw hg n (some c) (j + 1) (p ++ [v])) = fun v => decide (c - p.sum - (sumF hg n - sumF hg (j + 1)) ≤ v ∧ v ≤ c - p.sum - (sumF lw n - sumF lw (j + 1))) := funext fun v => by
      show decide ((p ++ [v]).sum + (sumF lw n - sumF lw (j + 1)) ≤ c ∧ c ≤ (p ++ [v]).sum + (sumF hg n - sumF hg (j + 1))) = _
      rw [sum_snoc]
      exact decide_eq_decide.mpr ⟨fun h => by omega, fun h => by omega⟩
    rw [e, rng_filter _ _ _ _ _ rfl]
    by_cases q : fitC lw hg n (some c) j p = true
    · rw [if_pos q]
      rfl
    · rw [if_neg q]
      have q : ¬ (p.sum + (sumF lw n - sumF lw j) ≤ c ∧ c ≤ p.sum + (sumF hg n - sumF hg j)) := fun z => q (decide_eq_true z)
      rw [rng_nil]
      · rfl
      · have h1 := (mx_le (x := lw j) (y := c - p.sum - (sumF hg n - sumF hg (j + 1))) (z := mx (lw j) (c - p.sum - (sumF hg n - sumF hg (j + 1))))).mp (Int.le_refl _)
        have h2 := (le_mn (x := hg j) (y := c - p.sum - (sumF lw n - sumF lw (j + 1))) (z := mn (hg j) (c - p.sum - (sumF lw n - sumF lw (j + 1))))).mp (Int.le_refl _)
        omega
theorem wStart_succ {lw hg : Nat → Int} {n j : Nat} {c : Option Int} (hle : lw j ≤ hg j) : wStart lw hg n c (j + 1) = (wStart lw hg n c j).flatMap fun p => ext1 p (rng (loN lw hg n c p j) (hiN lw hg n c p j)) := by
  unfold wStart
  exact filter_flat (r := fitC lw hg n c j) _ fun p _ => ext1_filter hle
theorem wStart_zero {lw hg : Nat → Int} {n : Nat} {c : Option Int} (nb : ¬ badC (sumF lw n) (sumF hg n) c) : wStart lw hg n c 0 = [[]] := by
  unfold wStart
  show ([[]] : List (List Int)).filter _ = [[]]
  cases c with
  | none => rfl
  | some c =>
    rw [List.filter_cons, if_pos]
    · rfl
    · refine decide_eq_true ⟨?_, ?_⟩
      · show (0 : Int) + (sumF lw n - 0) ≤ c
        have : ¬ c < sumF lw n := fun z => nb ⟨c, rfl, .inl z⟩
        omega
      · show c ≤ (0 : Int) + (sumF hg n - 0)
        have : ¬ c > sumF hg n := fun z => nb ⟨c, rfl, .inr z⟩
        omega
theorem wStart_end {lw hg : Nat → Int} {n : Nat} {c : Option Int} : wStart lw hg n c n = (wAll lw hg n).filter (okC c) := by
  unfold wStart
  congr 1
  funext p
  cases c with
  | none => rfl
  | some c =>
    show decide (p.sum + (sumF lw n - sumF lw n) ≤ c ∧ c ≤ p.sum + (sumF hg n - sumF hg n)) = decide (p.sum = c)
    exact decide_eq_decide.mpr ⟨fun h => by omega, fun h => by omega⟩
theorem flat_len {α β : Type} {f : α → List β} {b : Nat} : ∀ l : List α, (∀ x ∈ l, (f x).length ≤ b) → (l.flatMap f).length ≤ l.length * b
  | [], _ => by simp
  | x :: t, h => by
    rw [List.flatMap_cons, List.length_append, List.length_cons, Nat.add_mul, Nat.one_mul]
    have h1 := h x List.mem_cons_self
    have h2 := flat_len t fun y hy => h y (List.mem_cons_of_mem _ hy)
    omega
theorem some_sum {lw hg : Nat → Int} : ∀ {n : Nat} {c : Int}, (∀ i, i < n → lw i ≤ hg i) → sumF lw n ≤ c → c ≤ sumF hg n → ∃ f : Nat → Int, (∀ i, i < n → lw i ≤ f i ∧ f i ≤ hg i) ∧ sumF f n = c
  | 0, c, _, h1, h2 => ⟨lw, fun i hi => absurd hi (Nat.not_lt_zero _), by
    have h1 : (0 : Int) ≤ c := h1
    have h2 : c ≤ (0 : Int) := h2
    show (0 : Int) = c
    omega⟩
  | n + 1, c, h, h1, h2 => by
    have h1 : sumF lw n + lw n ≤ c := h1
    have h2 : c ≤ sumF hg n + hg n := h2
    have hn := h n (by omega)
    have hs := sumF_le (n := n) fun i hi => h i (by omega)
    obtain ⟨v, v1, v2, v3, v4⟩ : ∃ v, lw n ≤ v ∧ v ≤ hg n ∧ sumF lw n ≤ c - v ∧ c - v ≤ sumF hg n := by
      by_cases q : c - sumF lw n ≤ hg n
      · exact ⟨c - sumF lw n, by omega, q, by omega, by omega⟩
      · exact ⟨hg n, hn, Int.le_refl _, by omega, by omega⟩
    obtain ⟨f, f1, f2⟩ := some_sum (n := n) (c := c - v) (fun i hi => h i (by omega)) v3 v4
    refine ⟨fun i => if i = n then v else f i, fun i hi => ?_, ?_⟩
    · show lw i ≤ (if i = n then v else f i) ∧ (if i = n then v else f i) ≤ hg i
      by_cases q : i = n
      · subst q
        rw [if_pos rfl]
        exact ⟨v1, v2⟩
      · rw [if_neg q]
        exact f1 i (by omega)
    · show sumF (fun i => if i = n then v else f i) n + (if n = n then v else f n) = c
      rw [if_pos rfl, sumF_congr (g := f) fun i hi => if_neg (by omega), f2]
      omega
theorem at_worlds {lw hg : Nat → Int} {n k : Nat} {c : Option Int} (hk : k < n) (hle : ∀ i, i < n → lw i ≤ hg i) (nb : ¬ badC (sumF lw n) (sumF hg n) c) (x : Int) :
    (∃ p, p ∈ (wAll lw hg n).filter (okC c) ∧ p[k]? = some x) ↔ bLo (sumF hg n) c (lw k) (hg k) ≤ x ∧ x ≤ bHi (sumF lw n) c (lw k) (hg k) := by
  cases c with
  | none =>
    show _ ↔ lw k ≤ x ∧ x ≤ hg k
    constructor
    · rintro ⟨p, hp, e⟩
      obtain ⟨f, rfl, hf⟩ := mem_wAll.mp (List.mem_filter.mp hp).1
      rw [LI_at _ hk] at e
      cases e
      exact hf k hk
    · rintro ⟨h1, h2⟩
      refine ⟨LI (fun i => if i = k then x else lw i) n, List.mem_filter.mpr ⟨mem_wAll.mpr ⟨_, rfl, fun i hi => ?_⟩, rfl⟩, ?_⟩
      · show lw i ≤ (if i = k then x else lw i) ∧ (if i = k then x else lw i) ≤ hg i
        by_cases q : i = k
        · subst q
          rw [if_pos rfl]
          exact ⟨h1, h2⟩
        · rw [if_neg q]
          exact ⟨Int.le_refl _, hle i hi⟩
      · rw [LI_at _ hk]
        show some (if k = k then x else lw k) = some x
        rw [if_pos rfl]
  | some c =>
    have hc1 : sumF lw n ≤ c := Classical.byContradiction fun z => nb ⟨c, rfl, .inl (by omega)⟩
    have hc2 : c ≤ sumF hg n := Classical.byContradiction fun z => nb ⟨c, rfl, .inr (by omega)⟩
    rw [← feas_iff hk hle hc1 hc2]
    constructor
    · rintro ⟨p, hp, e⟩
      obtain ⟨hp, ho⟩ := List.mem_filter.mp hp
      obtain ⟨f, rfl, hf⟩ := mem_wAll.mp hp
      have ho : (LI f n).sum = c := of_decide_eq_true ho
      rw [LI_sum] at ho
      rw [LI_at _ hk] at e
      cases e
      have h1 := sumF_le (lw := fun i => if i = k then f k else lw i) (hg := f) (n := n) fun i hi => by
        show (if i = k then f k else lw i) ≤ f i
        by_cases q : i = k
        · subst q
          rw [if_pos rfl]
          exact Int.le_refl _
        · rw [if_neg q]
          exact (hf i hi).1
      have h2 := sumF_le (lw := f) (hg := fun i => if i = k then f k else hg i) (n := n) fun i hi => by
        show f i ≤ (if i = k then f k else hg i)
        by_cases q : i = k
        · subst q
          rw [if_pos rfl]
          exact Int.le_refl _
        · rw [if_neg q]
          exact (hf i hi).2
      rw [sumF_set, if_pos hk] at h1 h2
      refine ⟨(hf k hk).1, (hf k hk).2, ?_⟩
      unfold feas
      rw [cap_eq, if_pos hk]
      omega
    · rintro ⟨h1, h2, h3⟩
      unfold feas at h3
      rw [cap_eq, if_pos hk] at h3
      obtain ⟨f, f1, f2⟩ := some_sum (lw := fun i => if i = k then x else lw i) (hg := fun i => if i = k then x else hg i) (n := n) (c := c) (fun i hi => by
        show (if i = k then x else lw i) ≤ (if i = k then x else hg i)
        by_cases q : i = k
        · rw [if_pos q, if_pos q]
          exact Int.le_refl _
        · rw [if_neg q, if_neg q]
          exact hle i hi) (by rw [sumF_set, if_pos hk]; omega) (by rw [sumF_set, if_pos hk]; omega)
      have fk := f1 k hk
      have fk1 : (if k = k then x else lw k) ≤ f k := fk.1
      have fk2 : f k ≤ (if k = k then x else hg k) := fk.2
      rw [if_pos rfl] at fk1 fk2
      refine ⟨LI f n, List.mem_filter.mpr ⟨mem_wAll.mpr ⟨f, rfl, fun i hi => ?_⟩, ?_⟩, ?_⟩
      · by_cases q : i = k
        · subst q
          omega
        · have := f1 i hi
          have g1 : (if i = k then x else lw i) ≤ f i := this.1
          have g2 : f i ≤ (if i = k then x else hg i) := this.2
          rw [if_neg q] at g1 g2
          exact ⟨g1, g2⟩
      · show decide ((LI f n).sum = c) = true
        rw [LI_sum, f2]
        exact decide_eq_true rfl
      · rw [LI_at _ hk, show f k = x by omega]
theorem no_worlds {lw hg : Nat → Int} {n : Nat} {c : Option Int} (hle : ∀ i, i < n → lw i ≤ hg i) : (wAll lw hg n).filter (okC c) = [] ↔ badC (sumF lw n) (sumF hg n) c := by
  constructor
  · intro h
    refine Classical.byContradiction fun nb => ?_
    have none_ : ∀ p, p ∉ (wAll lw hg n).filter (okC c) := fun p z => by
      rw [h] at z
      cases z
    cases c with
    | none => exact none_ (LI lw n) (List.mem_filter.mpr ⟨mem_wAll.mpr ⟨lw, rfl, fun i hi => ⟨Int.le_refl _, hle i hi⟩⟩, rfl⟩)
    | some c =>
      obtain ⟨f, f1, f2⟩ := some_sum (lw := lw) (hg := hg) (n := n) (c := c) hle (Classical.byContradiction fun z => nb ⟨c, rfl, .inl (by omega)⟩) (Classical.byContradiction fun z => nb ⟨c, rfl, .inr (by omega)⟩)
      refine none_ (LI f n) (List.mem_filter.mpr ⟨mem_wAll.mpr ⟨f, rfl, f1⟩, ?_⟩)
      show decide ((LI f n).sum = c) = true
      rw [LI_sum, f2]
      exact decide_eq_true rfl
  · rintro ⟨c, rfl, h⟩
    refine List.filter_eq_nil_iff.mpr fun p hp z => ?_
    obtain ⟨f, rfl, hf⟩ := mem_wAll.mp hp
    have z : (LI f n).sum = c := of_decide_eq_true z
    rw [LI_sum] at z
    have h1 := sumF_le (lw := lw) (hg := f) (n := n) fun i hi => (hf i hi).1
    have h2 := sumF_le (lw := f) (hg := hg) (n := n) fun i hi => (hf i hi).2
    omega
end Nu
namespace Nu
open PySem PySem.Spec PyProof.Rows L2
/-! ### the worlds of a box -/
def tlF (lw hg : Nat → Int) (n : Nat) (c : Option Int) : Nat → Int := fun i => bLo (sumF hg n) c (lw i) (hg i)
def thF (lw hg : Nat → Int) (n : Nat) (c : Option Int) : Nat → Int := fun i => bHi (sumF lw n) c (lw i) (hg i)
def yLo (lw : Nat → Int) (k : Nat) (m : Int) : Nat → Int := fun i => if i = k then m else lw i
def Wd (lw hg : Nat → Int) (n : Nat) (c : Option Int) (f : Nat → Int) : Prop := (∀ i, i < n → lw i ≤ f i ∧ f i ≤ hg i) ∧ ∀ x, c = some x → sumF f n = x
theorem sumF_mono {f g : Nat → Int} : ∀ {n : Nat}, (∀ i, i < n → f i ≤ g i) → sumF f n ≤ sumF g n
  | 0, _ => Int.le_refl _
  | n + 1, h => by
    have h1 := sumF_mono (n := n) fun i hi => h i (by omega)
    have h2 := h n (by omega)
    show sumF f n + f n ≤ sumF g n + g n
    omega
theorem Wd.le {lw hg f : Nat → Int} {n : Nat} {c : Option Int} (h : Wd lw hg n c f) : ∀ i, i < n → lw i ≤ hg i := fun i hi => Int.le_trans (h.1 i hi).1 (h.1 i hi).2
theorem Wd.nb {lw hg f : Nat → Int} {n : Nat} {c : Option Int} (h : Wd lw hg n c f) : ¬ badC (sumF lw n) (sumF hg n) c := by
  rintro ⟨x, e, b⟩
  have h1 := h.2 x e
  have h2 := sumF_mono fun i hi => (h.1 i hi).1
  have h3 := sumF_mono fun i hi => (h.1 i hi).2
  omega
theorem Wd.mem {lw hg : Nat → Int} {n : Nat} {c : Option Int} {x : List Int} : x ∈ (wAll lw hg n).filter (okC c) ↔ ∃ f, x = LI f n ∧ Wd lw hg n c f := by
  rw [List.mem_filter, mem_wAll]
  constructor
  · rintro ⟨⟨f, rfl, hf⟩, hc⟩
    refine ⟨f, rfl, hf, fun y e => ?_⟩
    subst e
    unfold okC at hc
    have := of_decide_eq_true hc
    rw [LI_sum] at this
    exact this
  · rintro ⟨f, rfl, hf, hc⟩
    refine ⟨⟨f, rfl, hf⟩, ?_⟩
    cases c with
    | none => rfl
    | some y =>
      unfold okC
      rw [LI_sum]
      exact decide_eq_true (hc y rfl)
theorem tight_iff {lw hg : Nat → Int} {n k : Nat} {c : Option Int} (hk : k < n) (hle : ∀ i, i < n → lw i ≤ hg i) (nb : ¬ badC (sumF lw n) (sumF hg n) c) (x : Int) :
    (∃ f, Wd lw hg n c f ∧ f k = x) ↔ tlF lw hg n c k ≤ x ∧ x ≤ thF lw hg n c k := by
  refine Iff.trans ?_ (at_worlds hk hle nb x)
  constructor
  · rintro ⟨f, hf, e⟩
    exact ⟨LI f n, Wd.mem.mpr ⟨f, rfl, hf⟩, by rw [LI_at _ hk, e]⟩
  · rintro ⟨p, hp, e⟩
    obtain ⟨f, rfl, hf⟩ := Wd.mem.mp hp
    rw [LI_at _ hk] at e
    exact ⟨f, hf, Option.some.inj e⟩
theorem has_world {lw hg : Nat → Int} {n : Nat} {c : Option Int} (hle : ∀ i, i < n → lw i ≤ hg i) (nb : ¬ badC (sumF lw n) (sumF hg n) c) : ∃ f, Wd lw hg n c f := by
  cases c with
  | none => exact ⟨lw, fun i hi => ⟨Int.le_refl _, hle i hi⟩, fun x e => by cases e⟩
  | some c =>
    obtain ⟨f, h1, h2⟩ := some_sum (lw := lw) (hg := hg) (n := n) (c := c) hle (by
      by_cases q : c < sumF lw n
      · exact absurd ⟨c, rfl, .inl q⟩ nb
      · omega) (by
      by_cases q : c > sumF hg n
      · exact absurd ⟨c, rfl, .inr q⟩ nb
      · omega)
    exact ⟨f, h1, fun x e => by cases e; exact h2⟩
theorem Wd.tight {lw hg f : Nat → Int} {n : Nat} {c : Option Int} (h : Wd lw hg n c f) : Wd (tlF lw hg n c) (thF lw hg n c) n c f :=
  ⟨fun i hi => (tight_iff hi h.le h.nb (f i)).mp ⟨f, h, rfl⟩, h.2⟩
theorem tl_ge {lw hg : Nat → Int} {n : Nat} {c : Option Int} (i : Nat) : lw i ≤ tlF lw hg n c i := by
  unfold tlF bLo
  cases c with
  | none => exact Int.le_refl _
  | some c =>
    dsimp only
    split <;> omega
theorem th_le {lw hg : Nat → Int} {n : Nat} {c : Option Int} (i : Nat) : thF lw hg n c i ≤ hg i := by
  unfold thF bHi
  cases c with
  | none => exact Int.le_refl _
  | some c =>
    dsimp only
    split <;> omega
theorem Wd.loose {lw hg f : Nat → Int} {n : Nat} {c : Option Int} (h : Wd (tlF lw hg n c) (thF lw hg n c) n c f) : Wd lw hg n c f :=
  ⟨fun i hi => ⟨Int.le_trans (tl_ge i) (h.1 i hi).1, Int.le_trans (h.1 i hi).2 (th_le i)⟩, h.2⟩
theorem Wd.tight_iff' {lw hg f : Nat → Int} {n : Nat} {c : Option Int} : Wd (tlF lw hg n c) (thF lw hg n c) n c f ↔ Wd lw hg n c f := ⟨Wd.loose, Wd.tight⟩
theorem tl_le_th {lw hg : Nat → Int} {n : Nat} {c : Option Int} (hle : ∀ i, i < n → lw i ≤ hg i) (nb : ¬ badC (sumF lw n) (sumF hg n) c) : ∀ i, i < n → tlF lw hg n c i ≤ thF lw hg n c i := fun i hi => by
  obtain ⟨f, hf⟩ := has_world hle nb
  have := (tight_iff hi hle nb (f i)).mp ⟨f, hf, rfl⟩
  omega
/-- boxes of the same worlds have the same tight boxes -/
theorem tight_ext {lw hg lw' hg' : Nat → Int} {n : Nat} {c : Option Int} (hle : ∀ i, i < n → lw i ≤ hg i) (nb : ¬ badC (sumF lw n) (sumF hg n) c) (hle' : ∀ i, i < n → lw' i ≤ hg' i) (nb' : ¬ badC (sumF lw' n) (sumF hg' n) c)
    (h : ∀ f, Wd lw hg n c f ↔ Wd lw' hg' n c f) : ∀ i, i < n → tlF lw hg n c i = tlF lw' hg' n c i ∧ thF lw hg n c i = thF lw' hg' n c i := fun i hi => by
  have e : ∀ x, (tlF lw hg n c i ≤ x ∧ x ≤ thF lw hg n c i) ↔ (tlF lw' hg' n c i ≤ x ∧ x ≤ thF lw' hg' n c i) := fun x => by
    rw [← tight_iff hi hle nb, ← tight_iff hi hle' nb']
    exact exists_congr fun f => and_congr_left fun _ => h f
  have a1 := tl_le_th hle nb i hi
  have a2 := tl_le_th hle' nb' i hi
  have b1 := e (tlF lw hg n c i)
  have b2 := e (thF lw hg n c i)
  have b3 := e (tlF lw' hg' n c i)
  have b4 := e (thF lw' hg' n c i)
  omega
theorem Wd.yes {lw hg f : Nat → Int} {n k : Nat} {m : Int} {c : Option Int} (hk : k < n) (hm : lw k ≤ m) : Wd (yLo lw k m) hg n c f ↔ Wd lw hg n c f ∧ m ≤ f k := by
  unfold Wd yLo
  constructor
  · rintro ⟨h1, h2⟩
    refine ⟨⟨fun i hi => ?_, h2⟩, ?_⟩
    · have := h1 i hi
      by_cases e : i = k
      · subst e
        rw [if_pos rfl] at this
        omega
      · rw [if_neg e] at this
        exact this
    · have := h1 k hk
      rw [if_pos rfl] at this
      exact this.1
  · rintro ⟨⟨h1, h2⟩, h3⟩
    refine ⟨fun i hi => ?_, h2⟩
    have := h1 i hi
    by_cases e : i = k
    · subst e
      rw [if_pos rfl]
      omega
    · rw [if_neg e]
      exact this
theorem Wd.no {lw hg f : Nat → Int} {n k : Nat} {m : Int} {c : Option Int} (hk : k < n) (hm : m - 1 ≤ hg k) : Wd lw (yLo hg k (m - 1)) n c f ↔ Wd lw hg n c f ∧ f k < m := by
  unfold Wd yLo
  constructor
  · rintro ⟨h1, h2⟩
    refine ⟨⟨fun i hi => ?_, h2⟩, ?_⟩
    · have := h1 i hi
      by_cases e : i = k
      · subst e
        rw [if_pos rfl] at this
        omega
      · rw [if_neg e] at this
        exact this
    · have := h1 k hk
      rw [if_pos rfl] at this
      omega
  · rintro ⟨⟨h1, h2⟩, h3⟩
    refine ⟨fun i hi => ?_, h2⟩
    have := h1 i hi
    by_cases e : i = k
    · subst e
      rw [if_pos rfl]
      omega
    · rw [if_neg e]
      exact this
/-- a box that is tight -/
structure Tg (lw hg : Nat → Int) (n : Nat) (c : Option Int) : Prop where
  le : ∀ i, i < n → lw i ≤ hg i
  nb : ¬ badC (sumF lw n) (sumF hg n) c
  tl : ∀ i, i < n → tlF lw hg n c i = lw i
  th : ∀ i, i < n → thF lw hg n c i = hg i
theorem Tg.of {lw hg : Nat → Int} {n : Nat} {c : Option Int} (hle : ∀ i, i < n → lw i ≤ hg i) (nb : ¬ badC (sumF lw n) (sumF hg n) c) : Tg (tlF lw hg n c) (thF lw hg n c) n c := by
  obtain ⟨f, hf⟩ := has_world hle nb
  have h1 := tl_le_th hle nb
  have h2 := hf.tight.nb
  have e := tight_ext h1 h2 hle nb fun f => Wd.tight_iff'
  exact ⟨h1, h2, fun i hi => (e i hi).1, fun i hi => (e i hi).2⟩
/-- each number of a place of a tight box is that of a world -/
theorem Tg.at_ {lw hg : Nat → Int} {n : Nat} {c : Option Int} (T : Tg lw hg n c) {k : Nat} (hk : k < n) (x : Int) : (∃ f, Wd lw hg n c f ∧ f k = x) ↔ lw k ≤ x ∧ x ≤ hg k := by
  rw [tight_iff hk T.le T.nb, T.tl k hk, T.th k hk]
theorem Tg.yes {lw hg : Nat → Int} {n : Nat} {c : Option Int} (T : Tg lw hg n c) {k : Nat} (hk : k < n) {m : Int} (h1 : lw k < m) (h2 : m ≤ hg k) : (∀ i, i < n → yLo lw k m i ≤ hg i) ∧ ¬ badC (sumF (yLo lw k m) n) (sumF hg n) c := by
  obtain ⟨f, hf, e⟩ := (T.at_ hk m).mpr ⟨by omega, h2⟩
  have := (Wd.yes (c := c) (f := f) (hg := hg) hk (show lw k ≤ m by omega)).mpr ⟨hf, by omega⟩
  exact ⟨this.le, this.nb⟩
theorem Tg.no {lw hg : Nat → Int} {n : Nat} {c : Option Int} (T : Tg lw hg n c) {k : Nat} (hk : k < n) {m : Int} (h1 : lw k < m) (h2 : m ≤ hg k) : (∀ i, i < n → lw i ≤ yLo hg k (m - 1) i) ∧ ¬ badC (sumF lw n) (sumF (yLo hg k (m - 1)) n) c := by
  obtain ⟨f, hf, e⟩ := (T.at_ hk (m - 1)).mpr ⟨by omega, by omega⟩
  have := (Wd.no (c := c) (f := f) (lw := lw) hk (show m - 1 ≤ hg k by omega)).mpr ⟨hf, by omega⟩
  exact ⟨this.le, this.nb⟩
end Nu
namespace Nu
open PySem PySem.Spec PyProof.Rows L2
theorem walk_zipT {K : PySem.W.Frag} {a b : Addr} {xs ys : List V} {n : Nat} (hn : n = min xs.length ys.length) : Walk (RZ.ItzT K a b) n (fun H => SqT K H a xs ∧ SqT K H b ys) (YPair (fun i => xs[i]?) (fun i => ys[i]?)) := by
  constructor
  · intro i H hi q
    have a1 : i < xs.length := by omega
    have a2 : i < ys.length := by omega
    exact ⟨xs, ys, _, _, q.1, q.2, List.getElem?_eq_getElem a1, List.getElem?_eq_getElem a2⟩
  · intro H q
    exact ⟨xs, ys, q.1, q.2, by omega⟩
  · rintro i H v H' hi q ⟨T, x, z, e1, e2, e3, e4, e5⟩
    exact ⟨T, x, z, e1, e2, e3, e4 xs q.1, e5 ys q.2⟩
section
variable {P : Program} {w : World} {K : PySem.W.Frag} {mg : Str → Option Value} {base : Heap} {a : Ad} {fd : Fd}
def spCheckT (a : Ad) : Sp := fun vs H Q E => ∃ (p q : Addr) (ls hs : List Int) (c : Option Int), vs = [.ref p, .ref q, cV c] ∧ H p = some (.tup (ls.map V.int)) ∧ H q = some (.tup (hs.map V.int)) ∧ cOk c ∧ (badC ls.sum hs.sum c → E (.ref a.NoWorld) none H) ∧ (¬ badC ls.sum hs.sum c → Q .non H)
theorem ok_check_total (T : Txt K mg a fd) : FnOk P w K mg base (L2.CX P w) 1 a.check_total fd.check_total ["lows", "highs", "total"] (spCheckT a) := by
  refine T.F_check_total.okX sc_check_total (fun vs H Q E h => ?_) (fun cdv A outer s H vs Q E hr h => ?_)
  · obtain ⟨p, q, ls, hs, c, rfl, _⟩ := h
    rfl
  · obtain ⟨p, q, ls, hs, c, rfl, hp, hq, ok, k1, k2⟩ := h
    refine ⟨_, (pss_one (ps_if (PW.pt (pw_and (pt_cmpR op_notN (pv 2) pe_non (nomark _)) (pw_and1 (PW.pt (pw_or (pt_cmpR op_lt (pv 2) (pe_callB (cr_sumT rfl) (by rfl) T.n_sum (by decide +kernel) (pa_cons (pv 0) pa_nil)) (nomark _)) (pw_or1 (pt_cmpR op_gt (pv 2) (pe_callB (cr_sumT rfl) (by rfl) T.n_sum (by decide +kernel) (pa_cons (pv 1) pa_nil)) (nomark _)))))))) (pss_one (ps_raise rfl takesU (pmk_ownA PySem.F.excBase_ValueError T.x_NoWorld.x T.x_NoWorld.g T.x_NoWorld.k (raises_own T.x_NoWorld.b T.x_NoWorld.t) (by rfl) (pa_cons (pe_joined (.cons pe_str (.cons (pe_fmt (pv 2)) PJ.nil))) pa_nil)))) pss_nil)), ?_⟩
    cases c with
    | none =>
      refine ⟨_, rfl, rfl, _, rfl, iteF (iteF (k2 ?_))⟩
      rintro ⟨x, e, _⟩
      cases e
    | some c =>
      have hc := ok c rfl
      refine ⟨_, rfl, rfl, _, rfl, iteT ?_⟩
      refine ⟨_, rfl, _, rfl, p, ls, rfl, SqT.of hp, _, _, rfl, rfl, _, rfl, ?_⟩
      by_cases c1 : c < ls.sum
      · rw [decide_eq_true c1]
        refine iteT (iteT ?_)
        exact js_s (b := 0) (Nat.le_refl _) (by decide +kernel) (by omega) fun _ ha => js_f rfl hc ha (by omega) fun _ _ => ⟨one_le _, k1 ⟨c, rfl, .inl c1⟩⟩
      · rw [decide_eq_false c1]
        refine iteF ?_
        refine ⟨_, rfl, _, rfl, q, hs, rfl, SqT.of hq, _, _, rfl, rfl, _, rfl, ?_⟩
        by_cases c2 : c > hs.sum
        · rw [decide_eq_true c2]
          refine iteT ?_
          exact js_s (b := 0) (Nat.le_refl _) (by decide +kernel) (by omega) fun _ ha => js_f rfl hc ha (by omega) fun _ _ => ⟨one_le _, k1 ⟨c, rfl, .inr c2⟩⟩
        · rw [decide_eq_false c2]
          refine iteF (k2 ?_)
          rintro ⟨x, e, h⟩
          cases e
          exact h.elim c1 c2
def spNarrowed (a : Ad) : Sp := fun vs H Q E => ∃ (p q : Addr) (lw hg : Nat → Int) (n : Nat) (c : Option Int), vs = [.ref p, .ref q, cV c] ∧ H p = some (.tup ((LI lw n).map V.int)) ∧ H q = some (.tup ((LI hg n).map V.int)) ∧ n ≤ 1000 ∧ cOk c ∧ (badC (sumF lw n) (sumF hg n) c → E (.ref a.NoWorld) none H) ∧
  (¬ badC (sumF lw n) (sumF hg n) c → ∀ r ts H', Same H H' → H r = none → H' r = some (.lst (ts.map V.ref)) → TA H' ts n (fun i => [.int (bLo (sumF hg n) c (lw i) (hg i)), .int (bHi (sumF lw n) c (lw i) (hg i))]) → Q (.ref r) H')
theorem ok_narrowed (T : Txt K mg a fd) : FnOk P w K mg base (L2.CX P w) 2 a.narrowed fd.narrowed ["lows", "highs", "total"] (spNarrowed a) := by
  have G_check_total := ok_check_total (P := P) (w := w) (base := base) T
  refine T.F_narrowed.okX sc_narrowed (fun vs H Q E h => ?_) (fun cdv A outer s H vs Q E hr h => ?_)
  · obtain ⟨p, q, lw, hg, n, c, rfl, _⟩ := h
    rfl
  · obtain ⟨p, q, lw, hg, n, c, rfl, hp, hq, hn, ok, k1, k2⟩ := h
    refine ⟨_, (pss_cons (ps_expr (pe_call G_check_total (hr.mono (by decide)) (by rfl) T.g_check_total T.F_check_total.kp T.b_check_total .nil passU (pa_cons (pv 0) (pa_cons (pv 1) (pa_cons (pv 2) pa_nil)))))
    (pss_cons (ps_if (pt_cmpR op_isN (pv 2) pe_non (nomark _)) (pss_one (ps_ret (pe_listZipT (by rfl) T.n_list (by rfl) T.n_zip (pa_cons (pv 0) (pa_cons (pv 1) pa_nil))))) pss_nil)
    (pss_cons (ps_set (i := 3) sc_narrowed.nd rfl (Or.inr rfl) (pe_op op_sub (pv 2) (pe_callB (cr_sumT rfl) (by rfl) T.n_sum (by decide +kernel) (pa_cons (pv 0) pa_nil))))
    (pss_cons (ps_set (i := 4) sc_narrowed.nd rfl (Or.inr rfl) (pe_op op_sub (pe_callB (cr_sumT rfl) (by rfl) T.n_sum (by decide +kernel) (pa_cons (pv 1) pa_nil)) (pv 2)))
    (pss_one (ps_ret (pe_lc (own := [("low", 5), ("high", 6)]) (g := (gTup K 2 (gCons (gName 5) (gCons (gName 6) gNil)))) (by rfl) sc_narrowed.nd (RZ.pi_zipA (by rfl) T.n_zip (pa_cons (pv 0) (pa_cons (pv 1) pa_nil))) (blkOk_by (own := [("low", 5), ("high", 6)]) (N := ["lows", "highs", "total", "above", "below", "low", "high"]) (sc := defScope s_narrowed) (by decide +kernel)) (fun _ _ _ _ _ => pg_tupK (K := K) rfl (by rfl) (pgs_cons (pg_name (i := 5) sc_narrowed.nd rfl (Or.inl rfl)) (pgs_cons (pg_name (i := 6) sc_narrowed.nd rfl (Or.inl rfl)) pgs_nil))) (fun _ _ _ _ _ => pts_nil) (fun _ _ _ _ _ => (pe_tup (pa_cons (pe_callB (call_max2 rfl) (by rfl) T.n_max (by decide +kernel) (pa_cons (pv 5) (pa_cons (pe_op op_sub (pv 6) (pv 4)) pa_nil))) (pa_cons (pe_callB (call_min2 rfl) (by rfl) T.n_min (by decide +kernel) (pa_cons (pv 6) (pa_cons (pe_op op_add (pv 5) (pv 3)) pa_nil))) pa_nil))))))))))), ?_⟩
    rw [← LI_sum, ← LI_sum] at k1 k2
    refine ⟨_, rfl, _, rfl, _, rfl, p, q, LI lw n, LI hg n, c, rfl, hp, hq, ok, k1, fun nb => ?_⟩
    have k2 := k2 nb
    cases c with
    | none =>
      refine ⟨_, rfl, rfl, _, rfl, iteT ?_⟩
      refine ⟨_, rfl, _, rfl, p, q, _, _, rfl, SqT.of hp, SqT.of hq, by rw [List.length_map, List.length_map, LI_len, LI_len], by rw [List.length_map, LI_len]; exact hn, fun S Ts H' ht Z => ?_⟩
      rw [List.length_map, LI_len] at ht
      refine k2 S Ts H' Z.sm Z.nS Z.at_ ⟨ht, fun i t e => ?_⟩
      have hi := (List.getElem?_eq_some_iff.mp e).1
      rw [ht] at hi
      exact (Z.pr i t _ _ e (by rw [List.getElem?_map, LI_at _ hi]; rfl) (by rw [List.getElem?_map, LI_at _ hi]; rfl)).2
    | some c =>
      refine ⟨_, rfl, rfl, _, rfl, iteF ?_⟩
      refine ⟨_, rfl, _, rfl, p, _, rfl, SqT.of hp, _, _, rfl, rfl, ?_⟩
      refine ⟨_, rfl, q, _, rfl, SqT.of hq, _, rfl, _, _, rfl, rfl, ?_⟩
      refine ⟨_, rfl, _, rfl, p, q, _, _, rfl, .inr ⟨SqT.of hp, SqT.of hq, fun D nD => ?_⟩⟩
      refine lc_it (walk_zipT (n := n) (by rw [List.length_map, List.length_map, LI_len, LI_len]; omega)) (fun j H' => Same H H' ∧ ∃ ts : List Addr, H' D = some (.lst (ts.map V.ref)) ∧ TA H' ts j (fun i => [.int (bLo (LI hg n).sum (some c) (lw i) (hg i)), .int (bHi (LI lw n).sum (some c) (lw i) (hg i))]))
        ⟨same_upd nD, [], upd_same, TA.nil _ _⟩ (fun j H' _ ⟨s2, _⟩ => ⟨SqT.of (s2 _ _ hp), SqT.of (s2 _ _ hq)⟩) ?_ ?_
      · rintro j x H' H'' hj ⟨s2, ts, hD, hT⟩ ⟨Tz, x1, y1, rfl, nT, rfl, e1, e2⟩
        have e1 : ((LI lw n).map V.int)[j]? = some x1 := e1
        have e2 : ((LI hg n).map V.int)[j]? = some y1 := e2
        rw [List.getElem?_map, LI_at _ hj] at e1 e2
        cases e1
        cases e2
        have DT : D ≠ Tz := fun z => by rw [← z, hD] at nT; cases nT
        refine ⟨Tz, _, rfl, SqT.of upd_same, rfl, _, _, rfl, _, _, rfl, rfl, rfl, ?_⟩
        dsimp only [tYes]
        rw [if_pos rfl]
        refine ⟨_, rfl, _, rfl, _, rfl, _, _, rfl, rfl, _, _, rfl, _, rfl, _, rfl, _, rfl, _, _, rfl, rfl, _, _, rfl, (by show 2 ≤ sizeLine; decide), fun t nt => ?_⟩
        have hD2 : (upd H' Tz (.tup [V.int (lw j), V.int (hg j)])) D = some (.lst (ts.map V.ref)) := by rw [upd_ne DT]; exact hD
        have Dt : D ≠ t := fun z => by rw [← z, hD2] at nt; cases nt
        refine ⟨_, by rw [upd_ne Dt]; exact hD2, small1000 (by rw [List.length_map, hT.len]; omega), fun c' u e => ?_, ts ++ [t], ?_, ?_⟩
        · have h2 := s2 c' u e
          have h3 := same_upd (o := .tup [V.int (lw j), V.int (hg j)]) nT _ _ h2
          rw [upd_ne (fun z => by rw [z, nD] at e; cases e), upd_ne (fun z => by rw [z, nt] at h3; cases h3)]
          exact h3
        · rw [upd_same, List.map_append]
          rfl
        · refine TA.put (((hT.same (same_upd nT)).same (same_upd nt)).snoc ?_) (.inl (by rw [upd_ne Dt]; exact hD2))
          exact upd_same
      · rintro H' ⟨s2, ts, hD, hT⟩
        exact k2 D ts H' s2 nD hD hT
/-! ### boxes in the heap -/
def BoxH (H : Hp) (v : V) (lw hg : Nat → Int) (n m : Nat) (c : Option Int) : Prop := ∃ b p q, v = .ref b ∧ H b = some (.tup [.ref p, .ref q, cV c]) ∧ H p = some (.tup ((LI lw n).map V.int)) ∧ H q = some (.tup ((LI hg m).map V.int))
theorem BoxH.mono {H H' : Hp} {v : V} {lw hg : Nat → Int} {n m : Nat} {c : Option Int} (h : BoxH H v lw hg n m c) (s : ∀ c xs, H c = some (.tup xs) → H' c = some (.tup xs)) : BoxH H' v lw hg n m c := by
  obtain ⟨b, p, q, e, h1, h2, h3⟩ := h
  exact ⟨b, p, q, e, s _ _ h1, s _ _ h2, s _ _ h3⟩
theorem BoxH.same {H H' : Hp} {v : V} {lw hg : Nat → Int} {n m : Nat} {c : Option Int} (h : BoxH H v lw hg n m c) (s : Same H H') : BoxH H' v lw hg n m c := h.mono fun c xs e => s c _ e
def spTightened (a : Ad) : Sp := fun vs H Q E => ∃ (p q : Addr) (lw hg : Nat → Int) (n : Nat) (c : Option Int), vs = [.ref p, .ref q, cV c] ∧ H p = some (.tup ((LI lw n).map V.int)) ∧ H q = some (.tup ((LI hg n).map V.int)) ∧ n ≤ 1000 ∧ cOk c ∧ (badC (sumF lw n) (sumF hg n) c → E (.ref a.NoWorld) none H) ∧
  (¬ badC (sumF lw n) (sumF hg n) c → ∀ v H', Same H H' → BoxH H' v (tlF lw hg n c) (thF lw hg n c) n n c → Q v H')
theorem ok_tightened (T : Txt K mg a fd) : FnOk P w K mg base (L2.CX P w) 3 a.tightened fd.tightened ["lows", "highs", "total"] (spTightened a) := by
  have G_narrowed := ok_narrowed (P := P) (w := w) (base := base) T
  refine T.F_tightened.okX sc_tightened (fun vs H Q E h => ?_) (fun cdv A outer s H vs Q E hr h => ?_)
  · obtain ⟨p, q, lw, hg, n, c, rfl, _⟩ := h
    rfl
  · obtain ⟨p, q, lw, hg, n, c, rfl, hp, hq, hn, ok, k1, k2⟩ := h
    refine ⟨_, (pss_cons (ps_set (i := 3) sc_tightened.nd rfl (Or.inl rfl) (pe_call G_narrowed (hr.mono (by decide)) (by rfl) T.g_narrowed T.F_narrowed.kp T.b_narrowed .nil passU (pa_cons (pv 0) (pa_cons (pv 1) (pa_cons (pv 2) pa_nil)))))
    (pss_one (ps_ret (pe_tup (pa_cons (pe_callTy call_tuple_of (by rfl) T.n_tuple (by decide +kernel) (pa_cons (pe_lc (own := [("low", 4), ("high", 5)]) (g := (gTup K 2 (gCons (gName 4) (gCons (gName 5) gNil)))) (by rfl) sc_tightened.nd (pi_list (pv 3)) (blkOk_by (own := [("low", 4), ("high", 5)]) (N := ["lows", "highs", "total", "spans", "low", "high"]) (sc := defScope s_tightened) (by decide +kernel)) (fun _ _ _ _ _ => pg_tupK (K := K) rfl (by rfl) (pgs_cons (pg_name (i := 4) sc_tightened.nd rfl (Or.inl rfl)) (pgs_cons (pg_name (i := 5) sc_tightened.nd rfl (Or.inl rfl)) pgs_nil))) (fun _ _ _ _ _ => pts_nil) (fun _ _ _ _ _ => (pv 4))) pa_nil)) (pa_cons (pe_callTy call_tuple_of (by rfl) T.n_tuple (by decide +kernel) (pa_cons (pe_lc (own := [("low", 4), ("high", 5)]) (g := (gTup K 2 (gCons (gName 4) (gCons (gName 5) gNil)))) (by rfl) sc_tightened.nd (pi_list (pv 3)) (blkOk_by (own := [("low", 4), ("high", 5)]) (N := ["lows", "highs", "total", "spans", "low", "high"]) (sc := defScope s_tightened) (by decide +kernel)) (fun _ _ _ _ _ => pg_tupK (K := K) rfl (by rfl) (pgs_cons (pg_name (i := 4) sc_tightened.nd rfl (Or.inl rfl)) (pgs_cons (pg_name (i := 5) sc_tightened.nd rfl (Or.inl rfl)) pgs_nil))) (fun _ _ _ _ _ => pts_nil) (fun _ _ _ _ _ => (pv 5))) pa_nil)) (pa_cons (pv 2) pa_nil))))))), ?_⟩
    refine ⟨_, rfl, _, rfl, _, rfl, p, q, lw, hg, n, c, rfl, hp, hq, hn, ok, k1, fun nb r ts H1 s1 nr hr1 hT => ?_⟩
    have k2 := k2 nb
    refine gName_go ?_
    refine next_go ?_
    refine ⟨_, rfl, r, rfl, ⟨_, SqL.of hr1⟩, fun D nD => lc_list (K := K) (a := r) (xs := ts.map V.ref) (fun j H' => Same H1 H' ∧ H' D = some (.lst ((LI (tlF lw hg n c) j).map V.int))) ⟨same_upd nD, upd_same⟩ (fun j H' _ ⟨s2, _⟩ => SqL.of (s2 _ _ hr1)) ?_ ?_⟩
    · rintro j x H' hx ⟨s2, hD⟩
      have hj : j < n := by
        have := (List.getElem?_eq_some_iff.mp hx).1
        rw [List.length_map, hT.len] at this
        exact this
      obtain ⟨t, et, ht⟩ := hT.get hj
      rw [List.getElem?_map, et] at hx
      cases hx
      refine ⟨t, _, rfl, SqT.of (s2 _ _ ht), rfl, _, _, rfl, _, _, rfl, rfl, rfl, ?_⟩
      dsimp only [tYes]
      rw [if_pos rfl]
      refine ⟨_, rfl, _, hD, small1000 (by rw [List.length_map, LI_len]; omega), fun c' u e => ?_, ?_⟩
      · rw [upd_ne (fun z => by rw [z, nD] at e; cases e)]
        exact s2 c' u e
      · rw [upd_same, LI_succ, List.map_append]
        rfl
    · rintro H2 ⟨s2, hD⟩
      rw [List.length_map, hT.len] at hD
      refine ⟨D, _, rfl, .inl ⟨SqL.of hD, fun l nl => ?_⟩⟩
      have s3 := s2.trans (same_upd (o := .tup ((LI (tlF lw hg n c) n).map V.int)) nl)
      refine ⟨_, rfl, r, rfl, ⟨_, SqL.of (s3 _ _ hr1)⟩, fun D2 nD2 => lc_list (K := K) (a := r) (xs := ts.map V.ref) (fun j H' => Same (upd H2 l (.tup ((LI (tlF lw hg n c) n).map V.int))) H' ∧ H' D2 = some (.lst ((LI (thF lw hg n c) j).map V.int))) ⟨same_upd nD2, upd_same⟩ (fun j H' _ ⟨s4, _⟩ => SqL.of (s4 _ _ (s3 _ _ hr1))) ?_ ?_⟩
      · rintro j x H' hx ⟨s4, hD2⟩
        have hj : j < n := by
          have := (List.getElem?_eq_some_iff.mp hx).1
          rw [List.length_map, hT.len] at this
          exact this
        obtain ⟨t, et, ht⟩ := hT.get hj
        rw [List.getElem?_map, et] at hx
        cases hx
        refine ⟨t, _, rfl, SqT.of (s4 _ _ (s3 _ _ ht)), rfl, _, _, rfl, _, _, rfl, rfl, rfl, ?_⟩
        dsimp only [tYes]
        rw [if_pos rfl]
        refine ⟨_, rfl, _, hD2, small1000 (by rw [List.length_map, LI_len]; omega), fun c' u e => ?_, ?_⟩
        · rw [upd_ne (fun z => by rw [z, nD2] at e; cases e)]
          exact s4 c' u e
        · rw [upd_same, LI_succ, List.map_append]
          rfl
      · rintro H4 ⟨s4, hD2⟩
        rw [List.length_map, hT.len] at hD2
        refine ⟨D2, _, rfl, .inl ⟨SqL.of hD2, fun l2 nl2 => ?_⟩⟩
        have s5 := s4.trans (same_upd (o := .tup ((LI (thF lw hg n c) n).map V.int)) nl2)
        refine ⟨_, rfl, (by show 3 ≤ sizeLine; decide), fun b nb => ?_⟩
        have s6 := s5.trans (same_upd (o := .tup [V.ref l, V.ref l2, cV c]) nb)
        exact k2 _ _ ((s1.trans s3).trans s6) ⟨b, l, l2, rfl, upd_same, s6 _ _ upd_same, same_upd nb _ _ upd_same⟩
end
end Nu
namespace Nu
open PySem PySem.Spec PyProof.Rows L2
/-- what a box is -/
def isB (lw hg : Nat → Int) (n m : Nat) : Prop := n = m ∧ 1 ≤ n ∧ n ≤ 3 ∧ ∀ i, i < n → 0 ≤ lw i ∧ lw i ≤ hg i ∧ hg i ≤ 7
structure BOk (lw hg : Nat → Int) (n m : Nat) (c : Option Int) : Prop where
  nn : n ≤ 1000
  mm : m ≤ 1000
  ll : ∀ i, i < n → IntOk (lw i)
  hh : ∀ i, i < m → IntOk (hg i)
  cc : cOk c
section
variable {P : Program} {w : World} {K : PySem.W.Frag} {mg : Str → Option Value} {base : Heap} {a : Ad} {fd : Fd}
def spCheckB (a : Ad) : Sp := fun vs H Q E => ∃ (v : V) (lw hg : Nat → Int) (n m : Nat) (c : Option Int), vs = [v] ∧ BoxH H v lw hg n m c ∧ BOk lw hg n m c ∧ (¬ isB lw hg n m → ∀ H', Same H H' → E (.ref a.NoBox) none H') ∧ (isB lw hg n m → ∀ H', Same H H' → Q .non H')
theorem ok_check_box (T : Txt K mg a fd) : FnOk P w K mg base (L2.CX P w) 1 a.check_box fd.check_box ["box"] (spCheckB a) := by
  refine T.F_check_box.okX sc_check_box (fun vs H Q E h => ?_) (fun cdv A outer s H vs Q E hr h => ?_)
  · obtain ⟨v, lw, hg, n, m, c, rfl, _⟩ := h
    rfl
  · obtain ⟨v, lw, hg, n, m, c, rfl, ⟨b, p, q, rfl, hb, hp, hq⟩, ok, k1, k2⟩ := h
    have on := ok.nn
    have om := ok.mm
    refine ⟨_, (pss_cons (ps_asg (pv 0) (pg_tup (by rfl) (pgs_cons (pg_name (i := 1) sc_check_box.nd rfl (Or.inl rfl)) (pgs_cons (pg_name (i := 2) sc_check_box.nd rfl (Or.inl rfl)) (pgs_cons (pg_name (i := 3) sc_check_box.nd rfl (Or.inl rfl)) pgs_nil)))))
    (pss_cons (ps_if (pt_cmpR op_ne (pe_callB call_len_seq (by rfl) T.n_len PySem.boot_len (pa_cons (pv 1) pa_nil)) (pe_callB call_len_seq (by rfl) T.n_len PySem.boot_len (pa_cons (pv 2) pa_nil)) (nomark _)) (pss_one (ps_raise rfl takesU (pmk_own PySem.F.excBase_ValueError T.x_NoBox.x T.x_NoBox.g T.x_NoBox.k (raises_own T.x_NoBox.b T.x_NoBox.t) (by rfl)))) pss_nil)
    (pss_cons (ps_if (PW.pt (pw_or (pt_cmpR op_lt (pe_callB call_len_seq (by rfl) T.n_len PySem.boot_len (pa_cons (pv 1) pa_nil)) pe_int (nomark _)) (pw_or1 (pt_cmpR op_gt (pe_callB call_len_seq (by rfl) T.n_len PySem.boot_len (pa_cons (pv 1) pa_nil)) (pe_gi (by rfl) T.g_MOST_PLACES) (nomark _))))) (pss_one (ps_raise rfl takesU (pmk_own PySem.F.excBase_ValueError T.x_NoBox.x T.x_NoBox.g T.x_NoBox.k (raises_own T.x_NoBox.b T.x_NoBox.t) (by rfl)))) pss_nil)
    (pss_one (ps_for passesU rfl (RZ.pi_zipA (by rfl) T.n_zip (pa_cons (pv 1) (pa_cons (pv 2) pa_nil))) (pg_tup (by rfl) (pgs_cons (pg_name (i := 4) sc_check_box.nd rfl (Or.inl rfl)) (pgs_cons (pg_name (i := 5) sc_check_box.nd rfl (Or.inl rfl)) pgs_nil)))
      (pss_one (ps_if (PW.pt (pw_or (pt_cmpR op_lt (pv 4) pe_int (nomark _)) (pw_or (pt_cmpR op_gt (pv 4) (pv 5) (nomark _)) (pw_or1 (pt_cmpR op_gt (pv 5) (pe_gi (by rfl) T.g_GREATEST_HIGH) (nomark _)))))) (pss_one (ps_raise rfl takesU (pmk_ownA PySem.F.excBase_ValueError T.x_NoBox.x T.x_NoBox.g T.x_NoBox.k (raises_own T.x_NoBox.b T.x_NoBox.t) (by rfl) (pa_cons (pe_joined (.cons pe_str (.cons (pe_fmt (pv 4)) (.cons pe_str (.cons (pe_fmt (pv 5)) PJ.nil))))) pa_nil)))) pss_nil))))))), ?_⟩
    refine ⟨_, rfl, b, _, rfl, SqT.of hb, rfl, _, _, rfl, _, _, rfl, _, _, rfl, rfl, ?_⟩
    refine ⟨_, rfl, p, _, rfl, .inr (SqT.of hp), _, rfl, q, _, rfl, .inr (SqT.of hq), rfl, _, rfl, ?_⟩
    rw [List.length_map, LI_len, List.length_map, LI_len]
    by_cases c1 : n = m
    · subst c1
      rw [decide_eq_true rfl]
      refine iteF ?_
      refine ⟨_, rfl, p, _, rfl, .inr (SqT.of hp), _, _, rfl, rfl, _, rfl, ?_⟩
      rw [List.length_map, LI_len]
      by_cases c2 : (n : Int) < 1
      · rw [decide_eq_true c2]
        refine iteT (iteT ?_)
        exact (k1 (fun z => by have := z.2.1; omega) H (Same.refl _))
      · rw [decide_eq_false c2]
        refine iteF ?_
        refine ⟨_, rfl, p, _, rfl, .inr (SqT.of hp), _, _, rfl, rfl, _, rfl, ?_⟩
        rw [List.length_map, LI_len]
        by_cases c3 : (n : Int) > 3
        · rw [decide_eq_true c3]
          refine iteT ?_
          exact (k1 (fun z => by have := z.2.2.1; omega) H (Same.refl _))
        · rw [decide_eq_false c3]
          refine iteF ?_
          refine next_go ?_
          refine ⟨_, rfl, _, rfl, p, q, _, _, rfl, .inr ⟨SqT.of hp, SqT.of hq, ?_⟩⟩
          refine RZ.for_zipT (K := K) (a := p) (b := q) (xs := (LI lw n).map V.int) (ys := (LI hg n).map V.int) (by rw [List.length_map, List.length_map, LI_len, LI_len]) (fun i σ H' => ∃ v4 v5 : Option V, σ = [some (.ref b), some (.ref p), some (.ref q), some (cV c), v4, v5] ∧ Same H H' ∧ ∀ j, j < i → 0 ≤ lw j ∧ lw j ≤ hg j ∧ hg j ≤ 7)
            ⟨none, none, rfl, Same.refl _, fun j h => by omega⟩ (fun i σ H' ⟨_, _, _, s1, _⟩ => ⟨SqT.of (s1 _ _ hp), SqT.of (s1 _ _ hq)⟩) ?_ ?_
          · rintro i x y Tz σ H1 hx hy ⟨v4, v5, rfl, s1, hall⟩ nT
            have hi : i < n := by
              have := (List.getElem?_eq_some_iff.mp hx).1
              rw [List.length_map, LI_len] at this
              exact this
            rw [List.getElem?_map, LI_at _ hi] at hx hy
            cases hx
            cases hy
            have ol := ok.ll i hi
            have oh := ok.hh i hi
            have s2 : Same H (upd H1 Tz (.tup [V.int (lw i), V.int (hg i)])) := s1.trans (same_upd nT)
            have bad : ¬ (0 ≤ lw i ∧ lw i ≤ hg i ∧ hg i ≤ 7) → E (.ref a.NoBox) none (upd H1 Tz (.tup [V.int (lw i), V.int (hg i)])) := fun z => k1 (fun B => z (B.2.2.2 i hi)) _ s2
            refine ⟨Tz, _, rfl, SqT.of upd_same, rfl, _, _, rfl, _, _, rfl, rfl, ?_⟩
            refine ⟨_, rfl, _, _, rfl, rfl, _, rfl, ?_⟩
            by_cases d1 : lw i < 0
            · rw [decide_eq_true d1]
              refine iteT (iteT ?_)
              exact js_s (b := 0) (Nat.le_refl _) (by decide +kernel) (by omega) fun _ ha => js_f rfl ol ha (by omega) fun _ ha => js_s ha (by decide +kernel) (by omega) fun _ ha => js_f rfl oh ha (by omega) fun _ _ => ⟨one_le _, bad (by omega)⟩
            · rw [decide_eq_false d1]
              refine iteF ?_
              refine ⟨_, rfl, _, rfl, _, _, rfl, rfl, _, rfl, ?_⟩
              by_cases d2 : lw i > hg i
              · rw [decide_eq_true d2]
                refine iteT (iteT ?_)
                exact js_s (b := 0) (Nat.le_refl _) (by decide +kernel) (by omega) fun _ ha => js_f rfl ol ha (by omega) fun _ ha => js_s ha (by decide +kernel) (by omega) fun _ ha => js_f rfl oh ha (by omega) fun _ _ => ⟨one_le _, bad (by omega)⟩
              · rw [decide_eq_false d2]
                refine iteF ?_
                refine ⟨_, rfl, _, _, rfl, rfl, _, rfl, ?_⟩
                by_cases d3 : hg i > 7
                · rw [decide_eq_true d3]
                  refine iteT ?_
                  exact js_s (b := 0) (Nat.le_refl _) (by decide +kernel) (by omega) fun _ ha => js_f rfl ol ha (by omega) fun _ ha => js_s ha (by decide +kernel) (by omega) fun _ ha => js_f rfl oh ha (by omega) fun _ _ => ⟨one_le _, bad (by omega)⟩
                · rw [decide_eq_false d3]
                  refine iteF ?_
                  refine ⟨_, _, rfl, s2, fun j hj => ?_⟩
                  by_cases e : j = i
                  · subst e
                    omega
                  · exact hall j (by omega)
          · rintro σ H1 ⟨v4, v5, rfl, s1, hall⟩
            rw [List.length_map, LI_len] at hall
            exact k2 ⟨rfl, by omega, by omega, hall⟩ H1 s1
    · rw [decide_eq_false (fun z => c1 (by injection z with z; omega))]
      refine iteT ?_
      exact (k1 (fun z => c1 z.1) H (Same.refl _))
end
end Nu
namespace Nu
open PySem PySem.Spec PyProof.Rows L2
theorem cut_to (xs : List V) (k : Nat) : cutV xs none (some (k : Int)) = xs.take k := by
  unfold cutV
  simp only [HT.sIx]
  by_cases c : k ≤ xs.length
  · have e : ¬ ((k : Int) < 0) := by omega
    simp [e, List.take_eq_take_iff]
    try omega
  · have e : ¬ ((k : Int) < 0) := by omega
    simp [e, List.take_eq_take_iff]
    try omega
theorem cut_from (xs : List V) (k : Nat) (h : k ≤ xs.length) : cutV xs (some (k : Int)) none = xs.drop k := by
  unfold cutV
  simp only [HT.sIx]
  have e : ¬ ((k : Int) < 0) := by omega
  simp [e]
  have e2 : min k xs.length = k := Nat.min_eq_left h
  first
    | (rw [e2]; exact List.take_of_length_le (by rw [List.length_drop]; omega))
    | (simp [e2])
theorem flat_snoc {α β : Type} (f : α → List β) (l : List α) (x : α) : (l ++ [x]).flatMap f = l.flatMap f ++ f x := by
  rw [List.flatMap_append, List.flatMap_cons, List.flatMap_nil, List.append_nil]
theorem take_flat {α β : Type} (f : α → List β) : ∀ (l : List α) (m : Nat), ((l.take m).flatMap f).length ≤ (l.flatMap f).length
  | [], m => by simp
  | x :: r, 0 => by simp
  | x :: r, m + 1 => by
    rw [List.take_succ_cons, List.flatMap_cons, List.flatMap_cons, List.length_append, List.length_append]
    have := take_flat f r m
    omega
theorem LI_upd {f : Nat → Int} {n k : Nat} (v : Int) (h : k < n) : ((LI f n).take k ++ [v]) ++ (LI f n).drop (k + 1) = LI (fun i => if i = k then v else f i) n := by
  rw [← LI_set f v, List.set_eq_take_append_cons_drop, if_pos (by rw [LI_len]; exact h), List.append_assoc]
  rfl
theorem cat_go {K : PySem.W.Frag} {H : Hp} {a b : Addr} {xs ys : List V} {Q : VK} (ha : H a = some (.tup xs)) (hb : H b = some (.tup ys)) (hl : xs.length + ys.length ≤ 1000) (k : ∀ p H', Same H H' → H' p = some (.tup (xs ++ ys)) → Q (.ref p) H') : rCatA K (.ref a) (.ref b) H Q := by
  refine ⟨a, b, xs, ys, rfl, rfl, SqT.of ha, SqT.of hb, Nat.le_of_lt (small1000 hl), fun e => ?_, fun _ e => ?_, fun _ _ p np => k p _ (same_upd np) upd_same⟩
  · subst e
    exact k b H (Same.refl _) hb
  · subst e
    exact k a H (Same.refl _) (by rw [List.append_nil]; exact ha)
theorem slTo_go {K : PySem.W.Frag} {H : Hp} {a : Addr} {xs : List V} {j : Nat} {Q : VK} (ha : H a = some (.tup xs)) (k : ∀ p H', Same H H' → H' p = some (.tup (xs.take j)) → Q (.ref p) H') : rSlA K (.ref a) none (some (j : Int)) H Q := by
  refine ⟨a, xs, rfl, SqT.of ha, fun ⟨e1, e2⟩ => ?_, fun _ p np => k p _ (same_upd np) (by rw [upd_same, cut_to])⟩
  refine k a H (Same.refl _) ?_
  rw [ha]
  have e3 : xs.length ≤ j := by
    simp only [HT.sIx] at e2
    split at e2 <;> omega
  rw [List.take_of_length_le e3]
theorem slFrom_go {K : PySem.W.Frag} {H : Hp} {a : Addr} {xs : List V} {j : Nat} {Q : VK} (ha : H a = some (.tup xs)) (hj : j ≤ xs.length) (k : ∀ p H', Same H H' → H' p = some (.tup (xs.drop j)) → Q (.ref p) H') : rSlA K (.ref a) (some (j : Int)) none H Q := by
  refine ⟨a, xs, rfl, SqT.of ha, fun ⟨e1, e2⟩ => ?_, fun _ p np => k p _ (same_upd np) (by rw [upd_same, cut_from _ _ hj])⟩
  refine k a H (Same.refl _) ?_
  rw [ha]
  have e3 : j = 0 := by
    simp only [HT.sIx] at e1
    split at e1 <;> omega
  rw [e3, List.drop_zero]
/-- the looks of a box, as the lists [k, many] -/
def lkAt (lw hg : Nat → Int) (k : Nat) : List (List Int) := (rng (lw k + 1) (hg k)).map fun m => [(k : Int), m]
def lks (lw hg : Nat → Int) (n : Nat) : List (List Int) := (List.range n).flatMap fun k => lkAt lw hg k
theorem lks_succ (lw hg : Nat → Int) (n : Nat) : lks lw hg (n + 1) = lks lw hg n ++ lkAt lw hg n := by
  unfold lks
  rw [List.range_succ, flat_snoc]
theorem mem_lks {lw hg : Nat → Int} {n : Nat} {x : List Int} : x ∈ lks lw hg n ↔ ∃ (k : Nat) (m : Int), k < n ∧ lw k + 1 ≤ m ∧ m ≤ hg k ∧ x = [(k : Int), m] := by
  unfold lks lkAt
  rw [List.mem_flatMap]
  constructor
  · rintro ⟨k, hk, hx⟩
    obtain ⟨m, hm, rfl⟩ := List.mem_map.mp hx
    have := mem_rng.mp hm
    exact ⟨k, m, List.mem_range.mp hk, this.1, this.2, rfl⟩
  · rintro ⟨k, m, hk, h1, h2, rfl⟩
    exact ⟨k, List.mem_range.mpr hk, List.mem_map.mpr ⟨m, mem_rng.mpr ⟨h1, h2⟩, rfl⟩⟩
theorem lks_len {lw hg : Nat → Int} : ∀ {n : Nat}, (∀ i, i < n → 0 ≤ lw i ∧ hg i ≤ 7) → (lks lw hg n).length ≤ 7 * n
  | 0, _ => Nat.le_refl _
  | n + 1, h => by
    have h1 := lks_len (n := n) fun i hi => h i (by omega)
    have h2 := h n (by omega)
    rw [lks_succ, List.length_append]
    unfold lkAt
    rw [List.length_map, rng_len]
    omega
section
variable {P : Program} {w : World} {K : PySem.W.Frag} {mg : Str → Option Value} {base : Heap} {a : Ad} {fd : Fd}
def spTight (a : Ad) : Sp := fun vs H Q E => ∃ (v : V) (lw hg : Nat → Int) (n m : Nat) (c : Option Int), vs = [v] ∧ BoxH H v lw hg n m c ∧ BOk lw hg n m c ∧ (¬ isB lw hg n m → ∀ H', Same H H' → E (.ref a.NoBox) none H') ∧
  (isB lw hg n m → badC (sumF lw n) (sumF hg n) c → ∀ H', Same H H' → E (.ref a.NoWorld) none H') ∧
  (isB lw hg n m → ¬ badC (sumF lw n) (sumF hg n) c → ∀ v' H', Same H H' → BoxH H' v' (tlF lw hg n c) (thF lw hg n c) n n c → Q v' H')
theorem ok_tight (T : Txt K mg a fd) : FnOk P w K mg base (L2.CX P w) 4 a.tight fd.tight ["box"] (spTight a) := by
  have G_check_box := ok_check_box (P := P) (w := w) (base := base) T
  have G_tightened := ok_tightened (P := P) (w := w) (base := base) T
  refine T.F_tight.okX sc_tight (fun vs H Q E h => ?_) (fun cdv A outer s H vs Q E hr h => ?_)
  · obtain ⟨v, lw, hg, n, m, c, rfl, _⟩ := h
    rfl
  · obtain ⟨v, lw, hg, n, m, c, rfl, B, ok, k1, k2, k3⟩ := h
    refine ⟨_, (pss_cons (ps_expr (pe_call G_check_box (hr.mono (by decide)) (by rfl) T.g_check_box T.F_check_box.kp T.b_check_box .nil passU (pa_cons (pv 0) pa_nil)))
    (pss_cons (ps_asg (pv 0) (pg_tup (by rfl) (pgs_cons (pg_name (i := 1) sc_tight.nd rfl (Or.inl rfl)) (pgs_cons (pg_name (i := 2) sc_tight.nd rfl (Or.inl rfl)) (pgs_cons (pg_name (i := 3) sc_tight.nd rfl (Or.inl rfl)) pgs_nil)))))
    (pss_one (ps_ret (pe_call G_tightened (hr.mono (by decide)) (by rfl) T.g_tightened T.F_tightened.kp T.b_tightened .nil passU (pa_cons (pv 1) (pa_cons (pv 2) (pa_cons (pv 3) pa_nil)))))))), ?_⟩
    refine ⟨_, rfl, v, lw, hg, n, m, c, rfl, B, ok, k1, fun ib H1 s1 => ?_⟩
    have e : n = m := ib.1
    subst e
    obtain ⟨b, p, q, rfl, hb, hp, hq⟩ := B.same s1
    refine ⟨_, rfl, b, _, rfl, SqT.of hb, rfl, _, _, rfl, _, _, rfl, _, _, rfl, rfl, ?_⟩
    refine ⟨_, rfl, _, rfl, _, rfl, p, q, lw, hg, n, c, rfl, hp, hq, ok.nn, ok.cc, fun z => k2 ib z H1 s1, fun nb v' H2 s2 B2 => k3 ib nb v' H2 (s1.trans s2) B2⟩
def spLooks : Sp := fun vs H Q _ => ∃ (v : V) (lw hg : Nat → Int) (n : Nat) (c : Option Int), vs = [v] ∧ BoxH H v lw hg n n c ∧ n ≤ 3 ∧ (∀ i, i < n → 0 ≤ lw i ∧ hg i ≤ 7 ∧ lw i ≤ hg i) ∧
  ∀ r ts H', Same H H' → H r = none → H' r = some (.lst (ts.map V.ref)) → TL H' ts (lks lw hg n) → Q (.ref r) H'
theorem ok_looks_in (T : Txt K mg a fd) : FnOk P w K mg base CX0 1 a.looks_in fd.looks_in ["box"] spLooks := by
  refine T.F_looks_in.ok sc_looks_in (fun vs H Q E h => ?_) (fun cdv A outer s H vs Q E hr h => ?_)
  · obtain ⟨v, lw, hg, n, c, rfl, _⟩ := h
    rfl
  · obtain ⟨v, lw, hg, n, c, rfl, ⟨b, p, q, rfl, hb, hp, hq⟩, hn, hall, k⟩ := h
    refine ⟨_, (pss_cons (ps_asg (pv 0) (pg_tup (by rfl) (pgs_cons (pg_name (i := 1) sc_looks_in.nd rfl (Or.inr rfl)) (pgs_cons (pg_name (i := 2) sc_looks_in.nd rfl (Or.inr rfl)) (pgs_cons (pg_name (i := 3) sc_looks_in.nd rfl (Or.inl rfl)) pgs_nil)))))
    (pss_one (ps_ret (pe_lc2 (own := [("k", 4), ("many", 5)]) (vs1 := [5]) (g := (gName 4)) (g1 := (gName 5)) (by rfl) sc_looks_in.nd (pi_range1 (by rfl) T.n_range (pa_cons (pe_callB call_len_seq (by rfl) T.n_len PySem.boot_len (pa_cons (pv 1) pa_nil)) pa_nil)) (blkOk_by (own := [("k", 4), ("many", 5)]) (N := ["box", "lows", "highs", "_", "k", "many"]) (sc := defScope s_looks_in) (by decide +kernel)) (by decide) (fun _ _ _ _ _ => pg_name (i := 4) sc_looks_in.nd rfl (Or.inl rfl)) (fun _ _ _ _ _ => pts_nil) (fun _ _ _ _ _ => (pi_range2 (by rfl) T.n_range (pa_cons (pe_op op_add (pe_ix (ixT_K (K := K) rfl) (pv 1) (pv 4) (fun _ _ => rfl)) pe_int) (pa_cons (pe_op op_add (pe_ix (ixT_K (K := K) rfl) (pv 2) (pv 4) (fun _ _ => rfl)) pe_int) pa_nil)))) (fun _ _ _ _ _ => pg_name (i := 5) sc_looks_in.nd rfl (Or.inl rfl)) (fun _ _ _ _ _ => pts_nil) (fun _ _ _ _ _ => (pe_tup (pa_cons (pv 4) (pa_cons (pv 5) pa_nil)))))))), ?_⟩
    refine ⟨_, rfl, b, _, rfl, SqT.of hb, rfl, _, _, rfl, _, _, rfl, _, _, rfl, rfl, ?_⟩
    refine ⟨_, rfl, p, _, rfl, .inr (SqT.of hp), _, rfl, by omega, by rw [List.length_map, LI_len]; omega, fun D nD => ?_⟩
    refine out_it (walk_range (lo := 0) (n := ((((LI lw n).map V.int).length : Nat) : Int).toNat)) (fun k H' => Same H H' ∧ ∃ ts : List Addr, H' D = some (.lst (ts.map V.ref)) ∧ TL H' ts (lks lw hg k))
      ⟨same_upd nD, [], upd_same, TL.nil _⟩ (fun k H' _ _ => trivial) ?_ ?_
    · rintro j x H1 H1' hj ⟨s1, ts, hD, hT⟩ ⟨rfl, rfl⟩
      have hj : j < n := by rw [List.length_map, LI_len] at hj; omega
      have hb := hall j hj
      have e0 : (0 : Int) + (j : Int) = (j : Int) := by omega
      refine ⟨rfl, ?_⟩
      dsimp only [tYes]
      rw [if_pos rfl, e0]
      refine ⟨_, rfl, _, rfl, p, _, (j : Int), _, rfl, rfl, SqT.of (s1 _ _ hp), atI_nat (by rw [List.getElem?_map, LI_at _ hj]; rfl), _, _, rfl, rfl, ?_⟩
      refine ⟨_, rfl, _, rfl, q, _, (j : Int), _, rfl, rfl, SqT.of (s1 _ _ hq), atI_nat (by rw [List.getElem?_map, LI_at _ hj]; rfl), _, _, rfl, rfl, ?_⟩
      refine ⟨_, _, rfl, ⟨by omega, by omega, by omega, by omega⟩, ?_⟩
      have l1 := lks_len (lw := lw) (hg := hg) (n := j) fun i hi => by
        have := hall i (by omega)
        exact ⟨this.1, this.2.1⟩
      refine out_it (walk_range (lo := lw j + 1) (n := (hg j + 1 - (lw j + 1)).toNat)) (fun i H' => Same H H' ∧ ∃ ts : List Addr, H' D = some (.lst (ts.map V.ref)) ∧ TL H' ts (lks lw hg j ++ (LI (fun i => lw j + 1 + (i : Int)) i).map fun m => [(j : Int), m]))
        ⟨s1, ts, hD, by
          show TL _ ts (lks lw hg j ++ [])
          rw [List.append_nil]
          exact hT⟩ (fun k H' _ _ => trivial) ?_ ?_
      · rintro i x H2 H2' hi ⟨s2, ts2, hD2, hT2⟩ ⟨rfl, rfl⟩
        refine ⟨rfl, ?_⟩
        dsimp only [tYes]
        rw [if_pos rfl]
        refine ⟨_, rfl, _, rfl, (by show 2 ≤ sizeLine; decide), fun t nt => ?_⟩
        have Dt : D ≠ t := fun z => by rw [← z, hD2] at nt; cases nt
        have l2 := hT2.len
        rw [List.length_append, List.length_map, LI_len] at l2
        refine ⟨_, by rw [upd_ne Dt]; exact hD2, small1000 (by rw [List.length_map]; omega), fun c' u e => ?_, ts2 ++ [t], ?_, ?_⟩
        · have h2 := s2 c' u e
          rw [upd_ne (fun z => by rw [z, nD] at e; cases e), upd_ne (fun z => by rw [z, nt] at h2; cases h2)]
          exact h2
        · rw [upd_same, List.map_append]
          rfl
        · rw [LI_succ, List.map_append, ← List.append_assoc]
          refine TL.put ((hT2.same (same_upd nt)).snoc ?_) (.inl (by rw [upd_ne Dt]; exact ⟨_, hD2⟩))
          exact upd_same
      · rintro H2 ⟨s2, ts2, hD2, hT2⟩
        refine ⟨s2, ts2, hD2, ?_⟩
        rw [lks_succ]
        exact hT2
    · rintro H1 ⟨s1, ts, hD, hT⟩
      rw [List.length_map, LI_len, Int.toNat_natCast] at hT
      exact k D ts H1 s1 nD hD hT
def spParted : Sp := fun vs H Q _ => ∃ (v : V) (l : Addr) (lw hg : Nat → Int) (n k : Nat) (m : Int) (c : Option Int), vs = [v, .ref l] ∧ BoxH H v lw hg n n c ∧ H l = some (.tup [.int (k : Int), .int m]) ∧ n ≤ 3 ∧ k < n ∧ cOk c ∧
  ¬ badC (sumF (yLo lw k m) n) (sumF hg n) c ∧ ¬ badC (sumF lw n) (sumF (yLo hg k (m - 1)) n) c ∧
  ∀ p vy vn H', Same H H' → H' p = some (.tup [vy, vn]) → BoxH H' vy (tlF (yLo lw k m) hg n c) (thF (yLo lw k m) hg n c) n n c → BoxH H' vn (tlF lw (yLo hg k (m - 1)) n c) (thF lw (yLo hg k (m - 1)) n c) n n c → Q (.ref p) H'
theorem map_LI_upd {f : Nat → Int} {n k : Nat} (v : Int) (h : k < n) : (((LI f n).map V.int).take k ++ [V.int v]) ++ ((LI f n).map V.int).drop (k + 1) = (LI (yLo f k v) n).map V.int := by
  show _ = (LI (fun i => if i = k then v else f i) n).map V.int
  rw [← LI_upd v h, List.map_append, List.map_append, List.map_take, List.map_drop]
  rfl
theorem ok_parted (T : Txt K mg a fd) : FnOk P w K mg base CX0 4 a.parted fd.parted ["box", "look"] spParted := by
  have G_tightened := ok_tightened (P := P) (w := w) (base := base) T
  refine T.F_parted.ok sc_parted (fun vs H Q E h => ?_) (fun cdv A outer s H vs Q E hr h => ?_)
  · obtain ⟨v, l, lw, hg, n, k, m, c, rfl, _⟩ := h
    rfl
  · obtain ⟨v, l, lw, hg, n, k, m, c, rfl, ⟨b, p, q, rfl, hb, hp, hq⟩, hl, hn, hk, oc, n1, n2, kk⟩ := h
    refine ⟨_, (pss_cons (ps_asg (pv 0) (pg_tup (by rfl) (pgs_cons (pg_name (i := 2) sc_parted.nd rfl (Or.inl rfl)) (pgs_cons (pg_name (i := 3) sc_parted.nd rfl (Or.inl rfl)) (pgs_cons (pg_name (i := 4) sc_parted.nd rfl (Or.inl rfl)) pgs_nil)))))
    (pss_cons (ps_asg (pv 1) (pg_tup (by rfl) (pgs_cons (pg_name (i := 5) sc_parted.nd rfl (Or.inl rfl)) (pgs_cons (pg_name (i := 6) sc_parted.nd rfl (Or.inl rfl)) pgs_nil))))
    (pss_cons (ps_set (i := 7) sc_parted.nd rfl (Or.inl rfl) (pe_call G_tightened (hr.mono (by decide)) (by rfl) T.g_tightened T.F_tightened.kp T.b_tightened .nil passL (pa_cons (pe_op op_catA (pe_op op_catA (pe_slice sl_tupA (pv 2) po_none (po_some (pv 5))) (pe_tup (pa_cons (pv 6) pa_nil))) (pe_slice sl_tupA (pv 2) (po_some (pe_op op_add (pv 5) pe_int)) po_none)) (pa_cons (pv 3) (pa_cons (pv 4) pa_nil)))))
    (pss_cons (ps_set (i := 8) sc_parted.nd rfl (Or.inl rfl) (pe_call G_tightened (hr.mono (by decide)) (by rfl) T.g_tightened T.F_tightened.kp T.b_tightened .nil passL (pa_cons (pv 2) (pa_cons (pe_op op_catA (pe_op op_catA (pe_slice sl_tupA (pv 3) po_none (po_some (pv 5))) (pe_tup (pa_cons (pe_op op_sub (pv 6) pe_int) pa_nil))) (pe_slice sl_tupA (pv 3) (po_some (pe_op op_add (pv 5) pe_int)) po_none)) (pa_cons (pv 4) pa_nil)))))
    (pss_one (ps_ret (pe_tup (pa_cons (pv 7) (pa_cons (pv 8) pa_nil))))))))), ?_⟩
    refine ⟨_, rfl, b, _, rfl, SqT.of hb, rfl, _, _, rfl, _, _, rfl, _, _, rfl, rfl, ?_⟩
    refine ⟨_, rfl, l, _, rfl, SqT.of hl, rfl, _, _, rfl, _, _, rfl, rfl, ?_⟩
    have e1 : (k : Int) + 1 = ((k + 1 : Nat) : Int) := by omega
    refine next_go ?_
    refine seq_go ?_
    -- yes
    refine ⟨_, rfl, _, rfl, _, rfl, slTo_go hp fun p1 H1 s1 hp1 => ?_⟩
    refine ⟨_, rfl, (by show 1 ≤ sizeLine; decide), fun t1 nt1 => ?_⟩
    have a1 := s1.trans (same_upd (o := .tup [V.int m]) nt1)
    have lp : ((LI lw n).map V.int).length = n := by rw [List.length_map, LI_len]
    have lq : ((LI hg n).map V.int).length = n := by rw [List.length_map, LI_len]
    refine cat_go (same_upd nt1 _ _ hp1) upd_same (by rw [List.length_take, lp, List.length_singleton]; omega) fun p2 H2 s2 hp2 => ?_
    have a2 := a1.trans s2
    refine ⟨_, rfl, _, rfl, _, _, rfl, rfl, ((k + 1 : Nat) : Int), congrArg V.int e1, ?_⟩
    dsimp only [tNoPart]
    refine slFrom_go (j := k + 1) (a2 _ _ hp) (by rw [lp]; omega) fun p3 H3 s3 hp3 => ?_
    have a3 := a2.trans s3
    refine cat_go (s3 _ _ hp2) hp3 (by rw [List.length_append, List.length_take, List.length_drop, lp, List.length_singleton]; omega) fun p4 H4 s4 hp4 => ?_
    rw [map_LI_upd m hk] at hp4
    have a4 := a3.trans s4
    refine ⟨_, rfl, _, rfl, p4, q, yLo lw k m, hg, n, c, rfl, hp4, a4 _ _ hq, by omega, oc, fun z => absurd z n1, fun _ vy H5 s5 B5 => ?_⟩
    have a5 := a4.trans s5
    refine gName_go ?_
    try refine next_go ?_
    try refine seq_go ?_
    -- no
    refine ⟨_, rfl, _, rfl, _, rfl, _, rfl, slTo_go (a5 _ _ hq) fun p1 H1 s6 hp1 => ?_⟩
    refine ⟨_, rfl, _, _, rfl, rfl, (by show 1 ≤ sizeLine; decide), fun t1 nt1 => ?_⟩
    have a6 := s6.trans (same_upd (o := .tup [V.int (m - 1)]) nt1)
    refine cat_go (same_upd nt1 _ _ hp1) upd_same (by rw [List.length_take, lq, List.length_singleton]; omega) fun p2 H2 s7 hp2 => ?_
    have a7 := a6.trans s7
    refine ⟨_, rfl, _, rfl, _, _, rfl, rfl, ((k + 1 : Nat) : Int), congrArg V.int e1, ?_⟩
    dsimp only [tNoPart]
    refine slFrom_go (j := k + 1) (a7 _ _ (a5 _ _ hq)) (by rw [lq]; omega) fun p3 H3 s8 hp3 => ?_
    have a8 := a7.trans s8
    refine cat_go (s8 _ _ hp2) hp3 (by rw [List.length_append, List.length_take, List.length_drop, lq, List.length_singleton]; omega) fun p5 H6 s9 hp5 => ?_
    rw [map_LI_upd (m - 1) hk] at hp5
    have a9 := a8.trans s9
    refine ⟨_, rfl, p, p5, lw, yLo hg k (m - 1), n, c, rfl, a9 _ _ (a5 _ _ hp), hp5, by omega, oc, fun z => absurd z n2, fun _ vn H7 s10 B7 => ?_⟩
    refine gName_go ?_
    try refine next_go ?_
    have a10 := a9.trans s10
    refine ⟨_, rfl, _, rfl, (by show 2 ≤ sizeLine; decide), fun t nt => ?_⟩
    exact kk t vy vn _ ((a5.trans a10).trans (same_upd nt)) upd_same ((B5.same a10).same (same_upd nt)) (B7.same (same_upd nt))
end
end Nu
namespace Nu
open PySem PySem.Spec PyProof.Rows L2
/-! ### dicts whose keys are nested tuples -/
mutual
inductive NkV (H : Hp) : NestedKey → V → Prop
  | non : NkV H .none .non
  | int (i : Int) : NkV H (.num i) (.int i)
  | tup {a : Addr} {ks : List NestedKey} {xs : List V} : H a = some (.tup xs) → NkAll H ks xs → NkV H (.tup ks) (.ref a)
inductive NkAll (H : Hp) : List NestedKey → List V → Prop
  | nil : NkAll H [] []
  | cons {k : NestedKey} {v : V} {ks : List NestedKey} {vs : List V} : NkV H k v → NkAll H ks vs → NkAll H (k :: ks) (v :: vs)
end
mutual
theorem NkV.mono {H H' : Hp} (s : ∀ c xs, H c = some (.tup xs) → H' c = some (.tup xs)) : ∀ {k : NestedKey} {v : V}, NkV H k v → NkV H' k v
  | _, _, .non => .non
  | _, _, .int i => .int i
  | _, _, .tup h a => .tup (s _ _ h) (NkAll.mono s a)
theorem NkAll.mono {H H' : Hp} (s : ∀ c xs, H c = some (.tup xs) → H' c = some (.tup xs)) : ∀ {ks : List NestedKey} {vs : List V}, NkAll H ks vs → NkAll H' ks vs
  | _, _, .nil => .nil
  | _, _, .cons h t => .cons (NkV.mono s h) (NkAll.mono s t)
end
mutual
theorem NkV.is {P : Program} {w : World} {H : Hp} {h : Heap} (ok : HOk P w H h) : ∀ {k : NestedKey} {v : V} {u : Value}, NkV H k v → RelV v u → NestedIs h k u
  | _, _, _, .non, r => by
    cases r
    exact .none
  | _, _, _, .int i, r => by
    obtain ⟨t, rfl⟩ := r
    exact .int i t
  | _, _, _, .tup e a, r => by
    cases r
    obtain ⟨_, its, rv, o, ho, hc, n, hd⟩ := (show ObjOk P w H h _ (.tup _) from ok _ _ e)
    exact .tup ho hc hd (NkAll.is ok a (by simpa using rv))
theorem NkAll.is {P : Program} {w : World} {H : Hp} {h : Heap} (ok : HOk P w H h) : ∀ {ks : List NestedKey} {vs : List V} {us : List Value}, NkAll H ks vs → Vals vs us → NestedAll h ks us
  | _, _, _, .nil, r => by
    cases r
    exact .nil
  | _, _, _, .cons a t, r => by
    cases r with
    | cons r rr => exact .cons (NkV.is ok a r) (NkAll.is ok t rr)
end
end Nu
namespace Nu
open PySem PySem.Spec PyProof.Rows L2
abbrev NEnt := NestedKey × Addr × V
abbrev NEntU := NestedKey × Addr × Value
abbrev NRel : List NEnt → List NEntU → Prop := Paired fun p q => p.1 = q.1 ∧ p.2.1 = q.2.1 ∧ RelV p.2.2 q.2.2
/-- a dict of nested keys, as an object -/
def DicO (P : Program) (w : World) (d : Addr) (kvs : List NEnt) : HO := .ext fun h => (d == sysModules) = false ∧ ∃ xs : List NEntU, NRel kvs xs ∧
  ∃ o es ep, h.get? d = some o ∧ o.ExactDict ∧ o.data = .dict es ep ∧ es.toList = xs.map (entryOfKey (nestedKind P w)) ∧ (xs.map (·.1)).Nodup
structure DicH (P : Program) (w : World) (H : Hp) (d : Addr) (kvs : List NEnt) : Prop where
  at_ : H d = some (DicO P w d kvs)
  key : ∀ x ∈ kvs, NkV H x.1 (.ref x.2.1) ∧ x.1.depth ≤ 8
  len : kvs.length ≤ 1000000
def atN (kvs : List NEnt) (k : NestedKey) : Option V := (kvs.find? fun x => decide (x.1 = k)).map (·.2.2)
def putN (kvs : List NEnt) (k : NestedKey) (a : Addr) (v : V) : List NEnt := if (atN kvs k).isSome then kvs.map (fun x => if x.1 = k then (x.1, x.2.1, v) else x) else kvs ++ [(k, a, v)]
theorem NRel.at_ {k : NestedKey} : ∀ {kvs : List NEnt} {xs : List NEntU}, NRel kvs xs → RelO (atN kvs k) ((atKey xs k).map (·.2))
  | _, _, .nil => True.intro
  | _, _, .cons (a := p) (b := q) r t => by
    obtain ⟨e, e2, rv⟩ := r
    unfold atN atKey
    rw [List.find?_cons, List.find?_cons, e]
    by_cases c : q.1 = k
    · rw [decide_eq_true c]
      exact rv
    · rw [decide_eq_false c]
      exact NRel.at_ t
theorem NRel.put {k : NestedKey} {a : Addr} {v : V} {u : Value} (rv : RelV v u) {kvs : List NEnt} {xs : List NEntU} (r : NRel kvs xs) : NRel (putN kvs k a v) (storedH xs k a u) := by
  have h := NRel.at_ (k := k) r
  have e : (atN kvs k).isSome = (atKey xs k).isSome := by
    cases h1 : atN kvs k with
    | none =>
      rw [h1] at h
      have := RelO.none_of h
      rw [Option.map_eq_none_iff.mp this]
      rfl
    | some y =>
      rw [h1] at h
      obtain ⟨z, hz, _⟩ := RelO.some_of h
      obtain ⟨y', hy, _⟩ := Option.map_eq_some_iff.mp hz
      rw [hy]
      rfl
  unfold putN storedH
  rw [e]
  have mp : ∀ {kvs : List NEnt} {xs : List NEntU}, NRel kvs xs → NRel (kvs.map (fun x => if x.1 = k then (x.1, x.2.1, v) else x)) (xs.map (putAt k u)) := by
    intro kvs xs r
    induction r with
    | nil => exact .nil
    | cons r t ih =>
      refine .cons ?_ ih
      obtain ⟨e1, e2, e3⟩ := r
      unfold putAt
      dsimp only
      rw [e1]
      split
      · exact ⟨rfl, e2, rv⟩
      · exact ⟨e1, e2, e3⟩
  have ap : ∀ {kvs : List NEnt} {xs : List NEntU}, NRel kvs xs → NRel (kvs ++ [(k, a, v)]) (xs ++ [(k, a, u)]) := by
    intro kvs xs r
    induction r with
    | nil => exact .cons ⟨rfl, rfl, rv⟩ .nil
    | cons r t ih => exact .cons r ih
  split
  · exact mp r
  · exact ap r
theorem NRel.keys : ∀ {kvs : List NEnt} {xs : List NEntU}, NRel kvs xs → ∀ {p : NestedKey → Addr → Prop}, (∀ x ∈ kvs, p x.1 x.2.1) → ∀ y ∈ xs, p y.1 y.2.1
  | _, _, .nil, _, _, _, h => by cases h
  | _, _, .cons (a := a) (b := b) r t, p, h, y, hy => by
    rcases List.mem_cons.mp hy with e | hy
    · subst e
      have := h a List.mem_cons_self
      rw [r.1, r.2.1] at this
      exact this
    · exact NRel.keys t (fun x hx => h x (List.mem_cons_of_mem _ hx)) y hy
section
variable {X : Cx} {pins : List (Addr × Obj)} {σ : L2.St} {H : Hp} {s : Shared} {d : Addr} {kvs : List NEnt}
theorem DicH.raw (D : DicH X.prog X.w H d kvs) (ok : HOk X.prog X.w H s.heap) : (d == sysModules) = false ∧ ∃ xs : List NEntU, NRel kvs xs ∧ s.heap.DictOfH (nestedKind X.prog X.w) d xs := by
  obtain ⟨⟨hd, xs, r, o, es, ep, h1, h2, h3, h4, h5⟩, _⟩ := (show ObjOk X.prog X.w H s.heap d (DicO X.prog X.w d kvs) from ok d _ D.at_)
  refine ⟨hd, xs, r, o, es, ep, h1, h2, h3, h4, fun x hx => ?_, h5⟩
  exact NRel.keys r (p := fun k a => (nestedKind X.prog X.w).is s.heap k a) (fun y hy => ⟨NkV.is ok (D.key y hy).1 rfl, (D.key y hy).2⟩) x hx
end
/-! ### the rules -/
def tNNew (P : Program) (w : World) : TE := fun _ H Q => ∀ p, H p = none → Q (.ref p) (upd H p (DicO P w p []))
def tNIn (P : Program) (w : World) (neg : Bool) (ty td : TE) : TE := fun σ H Q => ty σ H fun y H1 => td σ H1 fun x H2 => ∃ d a kvs k, x = .ref d ∧ y = .ref a ∧ DicH P w H2 d kvs ∧ NkV H2 k (.ref a) ∧ k.depth ≤ 8 ∧ Q (.bl (xor neg (atN kvs k).isSome)) H2
def tNGet (P : Program) (w : World) (td ty : TE) : TE := fun σ H Q => td σ H fun x H1 => ty σ H1 fun y H2 => ∃ d a kvs k v, x = .ref d ∧ y = .ref a ∧ DicH P w H2 d kvs ∧ NkV H2 k (.ref a) ∧ k.depth ≤ 8 ∧ atN kvs k = some v ∧ Q v H2
def sNPut (P : Program) (w : World) (td ty tv : TE) : TS := fun D σ H => tv σ H fun v H1 => td σ H1 fun x H2 => ty σ H2 fun y H3 => ∃ d a kvs k, x = .ref d ∧ y = .ref a ∧ DicH P w H3 d kvs ∧ NkV H3 k (.ref a) ∧ k.depth ≤ 8 ∧ D.nx σ (upd H3 d (DicO P w d (putN kvs k a v)))
section
variable {X : Cx} {o i value : Expr} {pos pos' : Pos} {td ty tv : TE}
theorem nroom {A : Around} (hu : A.units + 64 < cLine) : A.in1.units + 8 < cLine := by
  show A.units + _ + 8 < cLine
  omega
theorem pe_dnewN : PE X (.Dict [] [] pos) (tNNew X.prog X.w) := ⟨fun pins s σ H Q I h =>
  wpAny_Dict_empty ⟨.ref s.heap.objs.size, _, I.laid (a := s.heap.objs.size) (o := DicO X.prog X.w s.heap.objs.size []) (t' := s.toks) (fun _ _ q => Heap.get?_push_of_some _ q) (Nat.le_refl _)
    ⟨⟨beq_eq_false_iff_ne.mpr (Ne.symm (Nat.ne_of_lt I.big)), [], .nil, _, #[], 0, Heap.get?_push_size _ rfl, ⟨rfl, rfl, rfl⟩, rfl, rfl, List.nodup_nil⟩, ⟨_, Heap.get?_push_size _ rfl⟩,
      fun h1 h2 ⟨e0, xs, r, o, es, ep, e1, e2⟩ st => ⟨e0, xs, r, o, es, ep, st _ e1, e2⟩⟩, rfl, h _ (I.hok.fresh (Nat.le_refl _))⟩⟩
theorem pc_nnotin (hu : X.A.units + 64 < cLine) (hi : PE X i ty) (ho : PE X o td) : PC X .NotIn i o (tNIn X.prog X.w true ty td) := by
  refine ⟨fun pins s σ H Q I h => ?_⟩
  refine thn (hi.run pins s σ H _ I h) fun iv s1 ⟨y, H1, I1, ry, q1⟩ => thn (ho.run pins s1 σ H1 _ I1 q1) fun u s2 ⟨x, H2, I2, rx, d, a, kvs, k, ex, ey, D, hk, dk, q2⟩ => ?_
  subst ex ey
  cases (show u = Value.ref d from rx)
  cases (show iv = Value.ref a from ry)
  obtain ⟨hd, xs, r, hx⟩ := D.raw I2.hok
  have rel := NRel.at_ (k := k) r
  have key : (nestedKind X.prog X.w).is s2.heap k a := ⟨hk.is I2.hok rfl, dk⟩
  refine notIn_keyed (knd := nestedKind X.prog X.w) (k := k) (nroom hu) key hd ⟨xs, hx, rfl⟩ ⟨.bl _, H2, I2.tok _, rfl, ?_⟩
  have e : (valueAt (pairsH xs) k).isSome = (atN kvs k).isSome := by
    rw [valueAt_pairsH]
    cases h1 : atN kvs k with
    | none =>
      rw [h1] at rel
      rw [RelO.none_of rel]
      rfl
    | some z =>
      rw [h1] at rel
      obtain ⟨z', hz, _⟩ := RelO.some_of rel
      rw [hz]
      rfl
  rw [e]
  simpa using q2
theorem pe_dgetN (hu : X.A.units + 64 < cLine) (ho : PE X o td) (hi : PE X i ty) (hs : NoSl i) : PE X (.Subscript o i pos) (tNGet X.prog X.w td ty) := by
  refine ⟨fun pins s σ H Q I h => ?_⟩
  refine subD_of PySem.F.slot_dict_getitem.lookup hs (thn (ho.run pins s σ H _ I h) fun u s1 ⟨x, H1, I1, rx, q1⟩ => thn (hi.run pins s1 σ H1 _ I1 q1) fun iv s2 ⟨y, H2, I2, ry, d, a, kvs, k, v, ex, ey, D, hk, dk, ev, q2⟩ => ?_)
  subst ex ey
  cases (show u = Value.ref d from rx)
  cases (show iv = Value.ref a from ry)
  obtain ⟨hd, xs, r, hx⟩ := D.raw I2.hok
  have rel := NRel.at_ (k := k) r
  rw [ev] at rel
  obtain ⟨z, hz, rz⟩ := RelO.some_of rel
  obtain ⟨p, hp, rfl⟩ := Option.map_eq_some_iff.mp hz
  have key : (nestedKind X.prog X.w).is s2.heap k a := ⟨hk.is I2.hok rfl, dk⟩
  exact ⟨hx.typeIs, wpAny_getItem_heap (knd := nestedKind X.prog X.w) (k := k) (nroom hu) key hx hp ⟨v, H2, I2.tok _, rz, q2⟩⟩
theorem ps_dputN (hu : X.A.units + 64 < cLine) (ho : PE X o td) (hi : PE X i ty) (hv : PE X value tv) (hs : swapsWith value (some (.Subscript o i pos')) pos.line X.env = pure false) :
    PS X (.Assign [.Subscript o i pos'] value pos) (sNPut X.prog X.w td ty tv) := by
  refine ⟨fun pins s σ H D I h => ?_⟩
  refine wpAny_Assign_Subscript (thn (hv.run pins s σ H _ I h) fun r s1 ⟨v, H1, I1, rv, q1⟩ => thn (ho.run pins s1 σ H1 _ I1 q1) fun u s2 ⟨x, H2, I2, rx, q2⟩ => thn (hi.run pins s2 σ H2 _ I2 q2) fun iv s3 ⟨y, H3, I3, ry, d, a, kvs, k, ex, ey, DD, hk, dk, q3⟩ => ?_) hs
  subst ex ey
  cases (show u = Value.ref d from rx)
  cases (show iv = Value.ref a from ry)
  obtain ⟨hd, xs, rr, hx⟩ := DD.raw I3.hok
  have lx : xs.length ≤ sizeLine := by
    rw [← Paired.length rr, sizeLine_eq]
    have := DD.len
    omega
  have key : (nestedKind X.prog X.w).is s3.heap k a := ⟨hk.is I3.hok rfl, dk⟩
  refine wpAny_setItem_heap (knd := nestedKind X.prog X.w) (hsz := lx) (k := k) (nroom hu) key hx fun h' dd' hs' => ?_
  obtain ⟨o', es, ep, h1, h2, h3, h4, h5, h6⟩ := dd'
  refine ⟨σ, _, d_write I3 (by rw [DD.at_]; exact True.intro) hs' ⟨o', h1⟩ ?_, q3⟩
  exact ⟨⟨hd, _, NRel.put rv rr, o', es, ep, h1, h2, h3, h4, h6⟩, ⟨o', h1⟩, fun a1 a2 ⟨e0, xs, r, o, es, ep, e1, e2⟩ st => ⟨e0, xs, r, o, es, ep, st _ e1, e2⟩⟩
end
end Nu
namespace Nu
open PySem PySem.Spec PyProof.Rows L2
/-! ### min of a list of (number, (number, number)) -/
abbrev T3 := Int × (Int × Int)
theorem minOf_mem (x : T3) (xs : List T3) : PySem.W.minOf x xs ∈ x :: xs := by
  unfold PySem.W.minOf
  induction xs generalizing x with
  | nil => exact List.mem_cons_self
  | cons y r ih =>
    rw [List.foldl_cons]
    have := ih (if PySem.W.DatumOrd.lt y x = true then y else x)
    rcases List.mem_cons.mp this with h | h
    · rw [h]
      split
      · exact List.mem_cons_of_mem _ List.mem_cons_self
      · exact List.mem_cons_self
    · exact List.mem_cons_of_mem _ (List.mem_cons_of_mem _ h)
theorem lt_first {x y : T3} : (PySem.W.DatumOrd.lt y x = true → y.1 ≤ x.1) ∧ (¬ PySem.W.DatumOrd.lt y x = true → x.1 ≤ y.1) := by
  have e : PySem.W.DatumOrd.lt y x = if y.1 = x.1 then PySem.W.DatumOrd.lt y.2 x.2 else decide (y.1 < x.1) := rfl
  rw [e]
  by_cases c : y.1 = x.1
  · rw [if_pos c]
    omega
  · rw [if_neg c]
    constructor
    · intro h
      have := of_decide_eq_true h
      omega
    · intro h
      have : ¬ y.1 < x.1 := fun z => h (decide_eq_true z)
      omega
theorem minOf_le (x : T3) (xs : List T3) : ∀ y ∈ x :: xs, (PySem.W.minOf x xs).1 ≤ y.1 := by
  unfold PySem.W.minOf
  induction xs generalizing x with
  | nil =>
    intro y hy
    rw [List.mem_singleton.mp hy]
    exact Int.le_refl _
  | cons z r ih =>
    intro y hy
    rw [List.foldl_cons]
    have h0 := ih (if PySem.W.DatumOrd.lt z x = true then z else x) _ List.mem_cons_self
    have hc : (if PySem.W.DatumOrd.lt z x = true then z else x).1 ≤ x.1 ∧ (if PySem.W.DatumOrd.lt z x = true then z else x).1 ≤ z.1 := by
      split
      · rename_i c
        exact ⟨lt_first.1 c, Int.le_refl _⟩
      · rename_i c
        exact ⟨Int.le_refl _, lt_first.2 c⟩
    rcases List.mem_cons.mp hy with e | hy
    · rw [e]
      omega
    · rcases List.mem_cons.mp hy with e | hy
      · rw [e]
        omega
      · exact ih _ y (List.mem_cons_of_mem _ hy)
/-- the rows of the list -/
structure RH (H : Hp) (ts : List Addr) (rs : List T3) : Prop where
  len : ts.length = rs.length
  at_ : ∀ (i : Nat) (t : Addr) (x : T3), ts[i]? = some t → rs[i]? = some x → ∃ l, H t = some (.tup [.int x.1, .ref l]) ∧ H l = some (.tup [.int x.2.1, .int x.2.2])
theorem RH.mono {H H' : Hp} {ts : List Addr} {rs : List T3} (h : RH H ts rs) (s : ∀ c xs, H c = some (.tup xs) → H' c = some (.tup xs)) : RH H' ts rs := ⟨h.len, fun i t x a b => by
  obtain ⟨l, h1, h2⟩ := h.at_ i t x a b
  exact ⟨l, s _ _ h1, s _ _ h2⟩⟩
theorem RH.nil {H : Hp} : RH H [] [] := ⟨rfl, fun i t x e => by simp at e⟩
theorem RH.snoc {H : Hp} {ts : List Addr} {rs : List T3} {t l : Addr} {x : T3} (h : RH H ts rs) (e1 : H t = some (.tup [.int x.1, .ref l])) (e2 : H l = some (.tup [.int x.2.1, .int x.2.2])) : RH H (ts ++ [t]) (rs ++ [x]) := by
  refine ⟨by rw [List.length_append, List.length_append, h.len]; rfl, fun i t' x' a b => ?_⟩
  have hl := h.len
  by_cases c : i < ts.length
  · rw [List.getElem?_append_left c] at a
    rw [List.getElem?_append_left (by omega)] at b
    exact h.at_ i t' x' a b
  · rw [List.getElem?_append_right (by omega)] at a
    rw [List.getElem?_append_right (by omega)] at b
    have z : i - ts.length = 0 := by
      by_cases z : i - ts.length = 0
      · exact z
      · rw [List.getElem?_eq_none (by simp; omega)] at a
        cases a
    rw [z] at a
    rw [show i - rs.length = 0 by omega] at b
    cases a
    cases b
    exact ⟨l, e1, e2⟩
def rMinT (K : PySem.W.Frag) : List V → Hp → VK → Prop := fun vs H Q => ∃ (r : Addr) (ts : List Addr) (rs : List T3), vs = [.ref r] ∧ H r = some (.lst (ts.map V.ref)) ∧ RH H ts rs ∧ rs ≠ [] ∧
  ∀ (i : Nat) (t : Addr) (x : T3), ts[i]? = some t → rs[i]? = some x → (∀ y ∈ rs, x.1 ≤ y.1) → Q (.ref t) H
theorem dp_row {K : PySem.W.Frag} {H : Hp} : ∀ (ts : List Addr) (rs : List T3), RH H ts rs → DpAll K H (ts.map V.ref) (rs.map PySem.W.Datum.toD)
  | [], [], _ => .nil
  | [], x :: r, h => by cases h.len
  | t :: r, [], h => by cases h.len
  | t :: r, x :: l, h => by
    obtain ⟨a, h1, h2⟩ := h.at_ 0 t x rfl rfl
    exact .cons (.tup (SqT.of h1) (.cons (.int _) (.cons (.tup (SqT.of h2) (.cons (.int _) (.cons (.int _) .nil))) .nil))) (dp_row r l ⟨Nat.succ.inj h.len, fun i t' x' e f => h.at_ (i + 1) t' x' e f⟩)
theorem cr_minT {X : Cx} (hu : X.A.units + 64 < cLine) (hc : X.calm = true) : CallR X (.builtin "min") (rMinT X.K) := by
  intro pins s σ H xs us Q I r h
  obtain ⟨a, ts, rs, e, ha, hT, hne, q⟩ := h
  subst e
  obtain ⟨u, rfl, r1⟩ := vals1 r
  cases (show u = Value.ref a from r1)
  obtain ⟨its, rv, p, _⟩ := I.list (SqL.of ha)
  cases rs with
  | nil => exact absurd rfl hne
  | cons x l =>
    obtain ⟨as, hr⟩ := Dp.readsAll I _ _ _ (dp_row ts (x :: l) hT) rv
    have hl := p.isList
    refine PySem.W.min_list_datum (α := T3) (x := x) (xs := l) (I.ok.hd hc) hl ⟨as, by simpa using hr⟩ (by show X.A.units + 1 + _ < cLine; have : PySem.W.Datum.depth T3 = 2 := rfl; omega) fun i v h' tk hv hm k => ?_
    have hv' : its[i]? = some v := by simpa using hv
    have hi := (List.getElem?_eq_some_iff.mp hv').1
    have hlen := rv.length
    rw [List.length_map] at hlen
    have hts : ts[i]? = some (ts[i]'(by omega)) := List.getElem?_eq_getElem _
    have hrs : (x :: l)[i]? = some ((x :: l)[i]'(by rw [← hT.len]; omega)) := List.getElem?_eq_getElem _
    obtain ⟨u, hu', ru⟩ := rv.get (show (ts.map V.ref)[i]? = some (V.ref ts[i]) by rw [List.getElem?_map, hts]; rfl)
    have hu' : its[i]? = some u := by simpa using hu'
    rw [hv'] at hu'
    cases hu'
    cases (show v = Value.ref ts[i] from ru)
    refine ⟨.ref _, H, I.kept k, rfl, q i _ _ hts hrs fun y hy => ?_⟩
    have mn := minOf_le x l y hy
    -- the value is the least
    obtain ⟨b1, m1⟩ := hm
    obtain ⟨c, g1, g2⟩ := hT.at_ i _ _ hts hrs
    obtain ⟨b2, m2⟩ := Dp.reads (X := X) (I.kept (t' := tk) k) (PySem.W.Datum.toD ((x :: l)[i]'(by rw [← hT.len]; omega))) (.ref ts[i]) (.ref ts[i]) (.tup (SqT.of g1) (.cons (.int _) (.cons (.tup (SqT.of g2) (.cons (.int _) (.cons (.int _) .nil))) .nil))) rfl
    have un := (Reads.unique m1 _ _ m2).1
    have e1 : PySem.W.minOf x l = (x :: l)[i]'(by rw [← hT.len]; omega) := by
      have := PySem.W.Datum.eqv (PySem.W.minOf x l) ((x :: l)[i]'(by rw [← hT.len]; omega))
      rw [un] at this
      rw [PySem.W.Datum.eqv] at this
      simpa using this.symm
    rw [e1] at mn
    exact mn
end Nu
namespace Nu
open PySem PySem.Spec PyProof.Rows L2
/-! ### more of dicts with nested keys: in, get with a default, the display of one pair, items -/
def tNGet2 (P : Program) (w : World) (td ty tx : TE) : TE := fun σ H Q => td σ H fun x H1 => ∃ d kvs, x = .ref d ∧ DicH P w H1 d kvs ∧ ty σ H1 fun y H2 => tx σ H2 fun z H3 => ∃ a kvs' k, y = .ref a ∧ DicH P w H3 d kvs' ∧ NkV H3 k (.ref a) ∧ k.depth ≤ 8 ∧ Q ((atN kvs' k).getD z) H3
def tNDisp (P : Program) (w : World) (ty tv : TE) : TE := fun σ H Q => ∀ d, H d = none → ty σ (upd H d (DicO P w d [])) fun y H1 => tv σ H1 fun v H2 => ∃ a k, y = .ref a ∧ DicH P w H2 d [] ∧ NkV H2 k (.ref a) ∧ k.depth ≤ 8 ∧ Q (.ref d) (upd H2 d (DicO P w d [(k, a, v)]))
section
variable {X : Cx} {pins : List (Addr × Obj)} {σ : L2.St} {H : Hp} {s : Shared} {d : Addr} {kvs : List NEnt}
theorem pc_nin {o i : Expr} {td ty : TE} (hu : X.A.units + 64 < cLine) (hi : PE X i ty) (ho : PE X o td) : PC X .In i o (tNIn X.prog X.w false ty td) := by
  refine ⟨fun pins s σ H Q I h => ?_⟩
  refine thn (hi.run pins s σ H _ I h) fun iv s1 ⟨y, H1, I1, ry, q1⟩ => thn (ho.run pins s1 σ H1 _ I1 q1) fun u s2 ⟨x, H2, I2, rx, d, a, kvs, k, ex, ey, D, hk, dk, q2⟩ => ?_
  subst ex ey
  cases (show u = Value.ref d from rx)
  cases (show iv = Value.ref a from ry)
  obtain ⟨hd, xs, r, hx⟩ := D.raw I2.hok
  have rel := NRel.at_ (k := k) r
  have key : (nestedKind X.prog X.w).is s2.heap k a := ⟨hk.is I2.hok rfl, dk⟩
  refine in_keyed (knd := nestedKind X.prog X.w) (k := k) (nroom hu) key hd ⟨xs, hx, rfl⟩ ⟨.bl _, H2, I2.tok _, rfl, ?_⟩
  have e : (valueAt (pairsH xs) k).isSome = (atN kvs k).isSome := by
    rw [valueAt_pairsH]
    cases h1 : atN kvs k with
    | none =>
      rw [h1] at rel
      rw [RelO.none_of rel]
      rfl
    | some z =>
      rw [h1] at rel
      obtain ⟨z', hz, _⟩ := RelO.some_of rel
      rw [hz]
      rfl
  rw [e]
  simpa using q2
theorem pe_dget2N {o e f : Expr} {apos cpos : Pos} {td ty tx : TE} (hu : X.A.units + 64 < cLine) (ho : PE X o td) (he : PE X e ty) (hf : PE X f tx) (m : M2 X o "get" apos e f cpos) : PE X (.Call (.Attribute o "get" apos) [e, f] [] cpos) (tNGet2 X.prog X.w td ty tx) := by
  refine ⟨fun pins s σ H Q I h => ?_⟩
  refine wpAny_Call_method m.base m.few m.line PySem.F.plainAttrs_dict PySem.F.slot_dict_get PySem.F.type_dict_get (thn (ho.run pins s σ H _ I h) fun u s1 ⟨x, H1, I1, rx, d, kvs, ex, D, q1⟩ => ?_)
  subst ex
  obtain rfl : u = Value.ref d := rx
  obtain ⟨hd, xs, r, hx⟩ := D.raw I1.hok
  refine ⟨hx.typeIs, fun b q => ?_, ?_⟩
  · cases q
    obtain ⟨ob, _, _, h1, h2, _⟩ := hx
    exact ⟨ob, h1, h2.2.1⟩
  rw [m.trees]
  refine Calls.callWith_builtin rfl (Calls.evalArgs_plain (Calls.spliced_cons (thn (he.run pins s1 σ H1 _ I1 q1) fun iv s2 ⟨y, H2, I2, ry, q2⟩ =>
    Calls.spliced_cons (thn (hf.run pins s2 σ H2 _ I2 q2) fun fv s3 ⟨z, H3, I3, rz, a, kvs', k, ey, D', hk, dk, q3⟩ => Calls.spliced_nil ?_))))
  subst ey
  cases (show iv = Value.ref a from ry)
  obtain ⟨hd', xs', r', hx'⟩ := D'.raw I3.hok
  have key : (nestedKind X.prog X.w).is s3.heap k a := ⟨hk.is I3.hok rfl, dk⟩
  have rel := NRel.at_ (k := k) r'
  have room : (nestedKind X.prog X.w).room X.A.in1 := nroom hu
  refine getOr_keyed (knd := nestedKind X.prog X.w) (k := k) room key hd' ⟨xs', hx', rfl⟩ ⟨(atN kvs' k).getD z, H3, I3.tok _, ?_, q3⟩
  rw [valueAt_pairsH]
  cases h1 : atN kvs' k with
  | none =>
    rw [h1] at rel
    rw [RelO.none_of rel]
    exact rz
  | some v =>
    rw [h1] at rel
    obtain ⟨z', hz, rv⟩ := RelO.some_of rel
    rw [hz]
    exact rv
end
end Nu
namespace Nu
open PySem PySem.Spec PyProof.Rows L2
/-- {k: v} with a nested key -/
theorem pe_ddispN {X : Cx} {ke ve : Expr} {pos : Pos} {ty tv : TE} (hu : X.A.units + 64 < cLine) (hk : PE X ke ty) (hv : PE X ve tv) : PE X (.Dict [some ke] [ve] pos) (tNDisp X.prog X.w ty tv) := by
  refine ⟨fun pins s σ H Q I q => ?_⟩
  have hn := I.hok.fresh (Nat.le_refl s.heap.objs.size)
  have I1 := I.laid (a := s.heap.objs.size) (o := DicO X.prog X.w s.heap.objs.size []) (h' := s.heap.push { cls := .type "dict", data := .dict #[] }) (t' := s.toks) (fun _ _ q => Heap.get?_push_of_some _ q) (Nat.le_refl _)
    ⟨⟨beq_eq_false_iff_ne.mpr (Ne.symm (Nat.ne_of_lt I.big)), [], .nil, _, #[], 0, Heap.get?_push_size _ rfl, ⟨rfl, rfl, rfl⟩, rfl, rfl, List.nodup_nil⟩, ⟨_, Heap.get?_push_size _ rfl⟩,
      fun h1 h2 ⟨e0, xs, r, o, es, ep, e1, e2⟩ st => ⟨e0, xs, r, o, es, ep, st _ e1, e2⟩⟩
  have room : (nestedKind X.prog X.w).room X.A := by
    show X.A.units + 8 < cLine
    omega
  rw [arm_eval_Dict, zip_pairTrees [some ke] [ve] X.env pos rfl rfl, dictDisplay_pairs (pairTrees [some ke] [ve] X.env pos) (by rw [ne_eq, ← List.length_eq_zero_iff, pairTrees_length _ _ _ _ rfl rfl]; exact Nat.one_ne_zero) (by rw [pairTrees_length _ _ _ _ rfl rfl]; show 1 < 17; decide)]
  refine wpAny_bind (wpAny_standAt (wpAny_bind (wpAny_subDictH (knd := nestedKind X.prog X.w) room (by rw [pairTrees_length _ _ _ _ rfl rfl]; show 1 ≤ 15; decide) ?_)))
  refine pairTrees_cons_walk (thn (hk.run pins _ σ _ _ I1 (q _ hn)) fun u s1 ⟨y, H1, I2, ry, q1⟩ => thn (hv.run pins s1 σ H1 _ I2 q1) fun v2 s2 ⟨v, H2, I3, rv, a, k, ey, D, kk, dk, q2⟩ => pairTrees_nil_walk ?_)
  subst ey
  cases (show u = Value.ref a from ry)
  obtain ⟨hd, xs, r, hx⟩ := D.raw I3.hok
  cases r
  have key : (nestedKind X.prog X.w).is s2.heap k a := ⟨kk.is I3.hok rfl, dk⟩
  refine ⟨[(k, a, v2)], ⟨rfl, rfl, key, trivial⟩, hx, fun h' tk dd' hs => wpAny_pure ?_⟩
  obtain ⟨o', es, ep, h1, h2, h3, h4, h5, h6⟩ := dd'
  refine ⟨.ref _, _, d_write (t' := tk) I3 (by rw [D.at_]; exact True.intro) hs ⟨o', h1⟩ ?_, rfl, q2⟩
  exact ⟨⟨hd, [(k, a, v2)], .cons ⟨rfl, rfl, rv⟩ .nil, o', es, ep, h1, h2, h3, h4, h6⟩, ⟨o', h1⟩, fun a1 a2 ⟨e0, xs, r, o, es, ep, e1, e2⟩ st => ⟨e0, xs, r, o, es, ep, st _ e1, e2⟩⟩
/-! ### items -/
def ItiN (P : Program) (w : World) (d : Addr) (o : Obj) (kvs : List NEnt) : It :=
  ⟨fun i H => H d = some (.frz o (DicO P w d kvs)) ∧ i < kvs.length, fun i H x H' => ∃ T k a v, kvs[i]? = some (k, a, v) ∧ x = .ref T ∧ H T = none ∧ H' = upd H T (.tup [.ref a, v]), fun i H => H d = some (.frz o (DicO P w d kvs)) ∧ kvs.length ≤ i⟩
section
variable {X : Cx} {pins : List (Addr × Obj)} {σ : L2.St} {H : Hp} {s : Shared} {d : Addr} {kvs : List NEnt} {o : Obj}
theorem nrel_get : ∀ {kvs : List NEnt} {xs : List NEntU}, NRel kvs xs → ∀ {i : Nat} {p : NEnt}, kvs[i]? = some p → ∃ q, xs[i]? = some q ∧ p.1 = q.1 ∧ p.2.1 = q.2.1 ∧ RelV p.2.2 q.2.2
  | _, _, .nil, i, p, h => by simp at h
  | _, _, .cons r t, 0, p, h => by
    cases h
    exact ⟨_, rfl, r⟩
  | _, _, .cons r t, i + 1, p, h => nrel_get t (i := i) h
theorem frzN (I : Inv X pins σ H s) (h : H d = some (.frz o (DicO X.prog X.w d kvs))) :
    (d == sysModules) = false ∧ s.heap.get? d = some o ∧ o.ExactDict ∧ ∃ (es : Array DictEntry) (ep : Nat), o.data = .dict es ep ∧ es.size = kvs.length ∧
      ∀ (i : Nat) (k : NestedKey) (a : Addr) (v : V), kvs[i]? = some (k, a, v) → ∃ en : DictEntry, es[i]? = some en ∧ en.key = .ref a ∧ RelV v en.val := by
  obtain ⟨hd, ⟨hs, xs, r, o', es, ep, ho, hx, hdt, he, _⟩, _⟩ := I.hok d _ h
  rw [hd] at ho
  cases ho
  have l1 : es.size = xs.length := by
    have := congrArg List.length he
    rw [List.length_map, Array.length_toList] at this
    exact this
  have l2 : kvs.length = xs.length := Paired.length r
  refine ⟨hs, hd, hx, es, ep, hdt, by omega, fun i k a v e => ?_⟩
  obtain ⟨q, hq, e1, e2, e3⟩ := nrel_get r e
  have hi : i < es.size := by
    rw [l1]
    exact (List.getElem?_eq_some_iff.mp hq).1
  have h3 : es.toList[i]? = some (entryOfKey (nestedKind X.prog X.w) q) := by
    rw [he, List.getElem?_map, hq]
    rfl
  refine ⟨_, by rw [← Array.getElem?_toList]; exact h3, ?_, e3⟩
  show Value.ref q.2.1 = .ref a
  rw [← e2]
end
theorem turn_itemsN {P : Program} {w : World} {K : PySem.W.Frag} {d : Addr} {o : Obj} {es : Array DictEntry} {ep : Nat} {kvs : List NEnt} {elts : List Expr} {kk : Nat} {tpos : Pos} (it : Addr) (hod : o.data = .dict es ep) :
    Turn P w K (.Tuple elts kk tpos) (ItiN P w d o kvs) [it] it (fun i h => ∃ ok ov, h.get? it = some (DVw.itmOb d .none i kvs.length ep ok ov)) where
  mem := by simp
  obj := fun i h st b hb => by
    have e : b = it := by simpa using hb
    subst e
    obtain ⟨ok, ov, e⟩ := st
    exact ⟨_, e, fun v z => nomatch z⟩
  keep := fun i h h' st k => let ⟨ok, ov, e⟩ := st; ⟨ok, ov, k it (by simp) _ e⟩
  item := by
    intro X hP hw hK hc i pins s σ H E I hf st hg
    subst hP hw hK
    obtain ⟨hd, hi⟩ := hg
    obtain ⟨hs, hgd, hx, es', ep', hdt, hsz, hent⟩ := frzN I hd
    obtain ⟨rfl, rfl⟩ := dict_ep hod hdt
    obtain ⟨⟨k, a, v⟩, hkv⟩ : ∃ p, kvs[i]? = some p := ⟨kvs[i], List.getElem?_eq_getElem hi⟩
    obtain ⟨e, he, hkey, ru⟩ := hent i k a v hkv
    obtain ⟨ok, ov, hit⟩ := st
    have hlt : it < s.heap.objs.size := Heap.lt_size hit
    refine DVw.itm_item hit hgd hdt hsz he fun h' b1 b2 b3 b4 => ?_
    refine ⟨_, rfl, wpAny_letOwnedTupleGo_items (s := { s with heap := h' }) (d := d) (i := i + 1) (n := kvs.length) (ep := _) (ok := e.key) (ov := e.val) b1 fun h'' he' sb => ?_⟩
    have hT2 : h''.get? s.heap.objs.size = some { cls := .type "tuple", data := .seq #[e.key, e.val] } := (sb.2 _ (Nat.ne_of_gt hlt)).trans b2
    have new : ObjOk X.prog X.w (upd H s.heap.objs.size (.tup [.ref a, v])) h'' s.heap.objs.size (.tup [.ref a, v]) :=
      ⟨by show 2 ≤ sizeLine; decide, [e.key, e.val], .cons hkey (.cons ru .nil), ⟨_, hT2, rfl, _, rfl⟩⟩
    have I1 : Inv X pins σ (upd H s.heap.objs.size (.tup [.ref a, v])) { s with heap := h'' } :=
      I.turnedNew (t' := s.toks) (ch := [it]) (fun b ob hb z => (sb.2 b (by simpa using hb)).trans (b4 b ob (by simpa using hb) z)) hf (Nat.le_refl _) new
    refine ⟨.ref s.heap.objs.size, _, I1, rfl, ⟨_, k, a, v, hkv, rfl, I.hok.fresh (Nat.le_refl _), rfl⟩, ⟨e.key, e.val, he'⟩, fun b hb => ?_⟩
    have z : b = it := by simpa using hb
    rw [z, upd_ne (Nat.ne_of_lt hlt)]
    exact (hf it (by simp)).1
  done := by
    intro X hP hw hK hc i pins s σ H E I hf st hg
    subst hP hw hK
    obtain ⟨hd, hi⟩ := hg
    obtain ⟨f0, f1, f2, f3, f4, f5⟩ := hf it (by simp)
    obtain ⟨hs, hgd, hx, es', ep', hdt, hsz, hent⟩ := frzN I hd
    obtain ⟨rfl, rfl⟩ := dict_ep hod hdt
    obtain ⟨ok, ov, hit⟩ := st
    have he : es'[i]? = none := Array.getElem?_eq_none (by rw [hsz]; exact hi)
    exact DVw.itm_end (I.ok.hd hc) hit hgd hdt hsz he fun h' eb => ⟨rfl, I.turned (t' := s.toks) (fun b ob hb e => eb b ob hb e) f0 f1 f3 f4 f5⟩
  self := fun A i s Q E st h => let ⟨_, _, e⟩ := st; PySem.W.kcp_self e h
def iItemsN (P : Program) (w : World) (td : TE) : TI := fun σ H R => td σ H fun x H1 => ∃ d o kvs, x = .ref d ∧ H1 d = some (.frz o (DicO P w d kvs)) ∧ R (ItiN P w d o kvs) H1
theorem pi_itemsN {X : Cx} {e : Expr} {td : TE} {apos cpos : Pos} {elts : List Expr} {kk : Nat} {tpos : Pos} (he : PE X e td) (hbase : attributeBase e "items" X.env (eval e X.env) = eval e X.env := by rfl) (hline : (apos.endLine == cpos.line) = true := by rfl) :
    PI X (.Tuple elts kk tpos) (.Call (.Attribute e "items" apos) [] [] cpos) (iItemsN X.prog X.w td) := by
  refine ⟨fun pins s σ H R I h => ?_⟩
  refine wpAny_Call_method (T := "dict") (id := "dict.items") hbase rfl hline F.plainAttrs_dict F.slot_dict_items F.type_dict_items (thn (he.run pins s σ H _ I h) fun u s1 ⟨x, H1, I1, rx, d, o, kvs, ex, hd, q⟩ => ?_)
  subst ex
  obtain rfl : u = Value.ref d := rx
  obtain ⟨hs, hgd, hx, es, ep, hdt, hsz, hent⟩ := frzN I1 hd
  have raw : s1.heap.DictRaw d es ep := ⟨o, hgd, hx, hdt⟩
  refine ⟨raw.typeIs, fun b q => ?_, ?_⟩
  · cases q
    exact ⟨o, hgd, hx.2.1⟩
  have I2 : Inv X pins σ H1 { s1 with heap := s1.heap.push { cls := .type "dict_items", data := .fields #[.ref d] } } := I1.kept (t' := s1.toks) fun b ob q => Heap.get?_push_of_some _ q
  have fin : wpAny (model X.prog X.w) X.A (pyIter (.ref s1.heap.objs.size)) (PIE X pins σ (.Tuple elts kk tpos) R) X.xe { s1 with heap := s1.heap.push { cls := .type "dict_items", data := .fields #[.ref d] } } := by
    refine wpAny_pyIter_items_raw (d := d) ⟨_, Heap.get?_push_size _ rfl, rfl, rfl⟩ (raw.push _) (pi_one (tk := s1.toks) I2 _ (turn_itemsN _ hdt) ⟨.none, .none, ?_⟩ q)
    rw [← hsz]
    exact Heap.get?_push_size _ rfl
  show wpAny _ _ (callWith cpos (.builtin "dict.items") [.ref d] [] []) _ X.xe s1
  exact method_meetsIn F.slot_dict_items F.entry_dict_items rfl (PySem.evalArgs_none ⟨rfl, raw.typeIs, F.args_dict_items_1 _, _, meets_dict_items_raw d hs, ⟨es, ep, raw⟩, fin⟩)
end Nu
namespace L2
open PySem PySem.Spec PyProof.Rows
/-! ### except (A, B): without a name -/
theorem fly_push {base h : Heap} {l : List Env} {e : Addr} {Z : Obj → Prop} (x : HandSPX.FlyingZ base l e Z h) (o : Obj) : HandSPX.FlyingZ base l e Z (h.push o) := by
  obtain ⟨f1, f2, f3, oe, vs, T, oT, ts, a1, a2, a3, a4, a5, a6, a7, a8, a9⟩ := x
  exact ⟨fun b q hb => Heap.get?_push_of_some _ (f1 b q hb), f2, Heap.FunFrames.of_keeps (fun b q hb _ => ⟨q, Heap.get?_push_of_some _ hb, rfl⟩) f3, oe, vs, T, oT, ts, Heap.get?_push_of_some _ a1, a2, a3, a4, a5, a6, Heap.get?_push_of_some _ a7, a8, a9⟩
def wTwo (K : PySem.W.Frag) (c1 c2 : Value) (ts : Addr → Value → Option Addr → TS) (Wout : WX) (D : Ends) : WX := fun cls d σ H =>
  ∃ b, PySem.W.exmAny K cls [c1, c2] = some b ∧ (b = true → ∀ a, H a = none → ts a cls d D σ H) ∧ (b = false → Wout cls d σ H)
section
variable {X : Cx} {x1 x2 : Str} {c1 c2 : Value} {body suite : List Stmt} {b₀ : Stmt} {p1 p2 tp pos pos' : Pos} {kk : Nat} {tb : WX → TS} {ts : Addr → Value → Option Addr → TS} {Wout : WX}
theorem ps_try_two (hs : X.stack = X.env :: X.outer) (hf : X.env.frame = some X.env.locals) (g1 : Gl X x1) (m1 : X.mg x1 = some c1) (g2 : Gl X x2) (m2 : X.mg x2 = some c2) (d1 : (x1 == ("__debug__" : Str)) = false) (d2 : (x2 == ("__debug__" : Str)) = false) (tk : Takes X Wout)
    (hb : ∀ (W : WX) (pn : List (Addr × Obj)) (xe : Value → Shared → Prop), Takes (X.tr pn xe) W → PassesOwn (model X.prog X.w) X.A X.env xe → PSs (X.tr pn xe) body (tb W))
    (hsu : ∀ (a : Addr) (oe : Obj) (cls : Value) (d : Option Addr) (pn : List (Addr × Obj)), Zc cls d oe → (∃ vs, oe.data = .fields vs) → PSs (X.suite a ((a, oe) :: pn)) (b₀ :: suite) (ts a cls d)) :
    PS X (.Try body [.ExceptHandler (some (.Tuple [.Name x1 p1, .Name x2 p2] kk tp)) none (b₀ :: suite) pos'] [] [] pos) (fun D σ H => tb (wTwo X.K c1 c2 ts Wout D) D σ H) := by
  refine ⟨fun pins s σ H D I h => ?_⟩
  have ok := I.ok
  have hfr : X.A.frames = some (X.env :: X.outer) := by rw [ok.frames, hs]
  refine wpAny_Try_except (wpAny_mono ((hb (wTwo X.K c1 c2 ts Wout D) (X.pn ++ pins) (fun e s₁ => wpAny (model X.prog X.w) X.A (noteFrame e X.env) (fun _ s₂ => wpAny (model X.prog X.w) X.A (setFlight e none) (fun _ s₃ =>
    wpAny (model X.prog X.w) X.A (handleBy e X.env [.ExceptHandler (some (.Tuple [.Name x1 p1, .Name x2 p2] kk tp)) none (b₀ :: suite) pos']) (SP X pins D) X.xe s₃) X.xe s₂) X.xe s₁) (fun u s' xx => ?_) PassesOwn.looking).run [] s σ H D (I.toTry _) h) (fun f s1 hsp => ?_) (fun e s1 he => he))
  · obtain ⟨a, B, sI, pins', σ', H', cls, d, rfl, J', nb, up, sky, na, os, ag, b, hb1, hyes, hno⟩ := xx
    have J : Inv X pins σ' H' sI := J'.ofTry ok
    show wpAny (model X.prog X.w) X.A (noteFrame (.ref a) X.env) _ _ _
    refine Sky.land Zc.steady hfr hf (by rw [← hs]; exact sky) fun h2 fl2 up2 => ?_
    have frOf : ∀ {h : Heap} {o : Obj} {vs : Array Value}, h.FunFrames B (X.env :: X.outer) → h.get? a = some o → o.data = .fields vs → a ∉ frs (X.env :: X.outer) := fun {h o vs} ff e dd hm => by
      obtain ⟨_, o', e', hnf⟩ := ff.mem hm
      rw [e] at e'
      cases e'
      exact hnf _ dd
    have J2 : Inv X pins σ' H' { s' with heap := h2 } := J.landed nb fl2.1 (up.trans up2) os ag
    obtain ⟨oe2, vs2, he2, hz2, hd2⟩ := fl2.there
    have nfr := frOf fl2.2.2.1 he2 hd2
    have nL : a ≠ X.env.locals := fun z => nfr (List.mem_filterMap.mpr ⟨X.env, List.mem_cons_self, by rw [hf, z]⟩)
    have nF : a ∉ X.fs := fun hm => by
      obtain ⟨e, he, q⟩ := List.mem_filterMap.mp hm
      exact nfr (List.mem_filterMap.mpr ⟨e, List.mem_cons_of_mem _ he, q⟩)
    have S2 := J2.suite he2 hd2 na nL nF
    refine wpAny_handleBy_cons (codeAny_handlers_test ?_) (by intro q; cases q)
    -- the test: a new tuple of the two classes
    refine wpAny_Tuple_spliced ?_
    refine Calls.spliced_cons (ld_glob (X := X.suite a ((a, oe2) :: (X.pn ++ pins))) S2 g1 m1 ?_ d1)
    refine Calls.spliced_cons (ld_glob (X := X.suite a ((a, oe2) :: (X.pn ++ pins))) S2 g2 m2 ?_ d2)
    refine Calls.spliced_nil ⟨by show 2 ≤ sizeLine; decide, ?_⟩
    have fl3 := fly_push fl2 { cls := .type "tuple", data := .seq [c1, c2].toArray }
    have up3 : h2.UpToSlots (h2.push { cls := .type "tuple", data := .seq [c1, c2].toArray }) := Heap.UpToSlots.of_keeps fun b o e => Heap.get?_push_of_some _ e
    have ht : (h2.push { cls := .type "tuple", data := .seq [c1, c2].toArray }).get? h2.objs.size = some { cls := .type "tuple", data := .seq [c1, c2].toArray } := Heap.get?_push_size _ rfl
    generalize h2.push { cls := .type "tuple", data := .seq [c1, c2].toArray } = h3 at fl3 up3 ht ⊢
    have J3 : Inv X pins σ' H' { s' with heap := h3 } := J.landed nb fl3.1 ((up.trans up2).trans up3) os ag
    obtain ⟨oe3, vs3, he3, hz3, hd3⟩ := fl3.there
    have LT : PySem.W.Looks (model X.prog X.w) h3 (typeOf (.ref a)) cls := fun A Q E s k q => wpAny_typeOf_ref (k _ _ he3) (by rw [hz3.1]; exact q)
    refine (PySem.W.exm_tup2 (M := model X.prog X.w) (J3.kIn) LT ht hb1).here ?_
    cases b with
    | true =>
      refine codeAny_handlers_suite (HandSPX.lands_againZ fl3 fun h4 fl4 up4 => ?_)
      have J4 : Inv X pins σ' H' { s' with heap := h4 } := J.landed nb fl4.1 (((up.trans up2).trans up3).trans up4) os ag
      obtain ⟨oe4, vs4, he4, hz4, hd4⟩ := fl4.there
      refine wpAny_mono ((hsu a oe4 cls d (X.pn ++ pins) hz4 ⟨_, hd4⟩).run [] _ _ H' _ (J4.suite he4 hd4 na nL nF) (hyes rfl a na)) (fun f s6 hsp => ?_) (fun _ _ z => False.elim z)
      cases f with
      | next => exact let ⟨_, _, S6, q6⟩ := hsp; ⟨_, _, S6.unsuite ok, q6⟩
      | brk => exact let ⟨_, _, S6, q6⟩ := hsp; ⟨_, _, S6.unsuite ok, q6⟩
      | cont => exact let ⟨_, _, S6, q6⟩ := hsp; ⟨_, _, S6.unsuite ok, q6⟩
      | ret u => exact let ⟨_, _, _, S6, r6, q6⟩ := hsp; ⟨_, _, _, S6.unsuite ok, r6, q6⟩
    | false =>
      show wpAny _ X.A (handleBy (.ref a) X.env []) _ _ _
      refine wpAny_handleBy_nil ?_
      obtain ⟨k1, k2, k3, oe, vs, T, oT, ts', he, hz, hd, h1, hr⟩ := id fl3
      unfold PySem.passOn
      refine wpAny_bind (wpAny_field he hd h1 ?_)
      rw [if_neg (show ¬ ((Value.ref T == Value.none) = true) from by simp)]
      have fin : wpAny (model X.prog X.w) X.A (setFlight (.ref a) X.env.frame) (fun _ s4 => wpAny (model X.prog X.w) X.A (throw (.ref a) : Sem Flow) (SP X pins D) X.xe s4) X.xe { s' with heap := h3 } := by
        rw [hf]
        exact HandSPX.setFlight_upZ fl3 fun h4 hh4 up4 => wpAny_throw (tk _ _ ⟨a, B, sI, pins, σ', H', cls, d, rfl, J, nb, ((up.trans up2).trans up3).trans up4, .inr (.inr (by rw [hs]; exact hh4)), na, os, ag, hno rfl⟩)
      first
        | exact wpAny_bind (wpAny_pure (wpAny_bind fin))
        | exact wpAny_bind fin
  · cases f with
    | next => exact let ⟨_, _, J', q⟩ := hsp; wpAny_execs_nil ⟨_, _, J'.ofTry ok, q⟩
    | brk => exact let ⟨_, _, J', q⟩ := hsp; ⟨_, _, J'.ofTry ok, q⟩
    | cont => exact let ⟨_, _, J', q⟩ := hsp; ⟨_, _, J'.ofTry ok, q⟩
    | ret u => exact let ⟨_, _, _, J', r, q⟩ := hsp; ⟨_, _, _, J'.ofTry ok, r, q⟩
end
end L2
namespace Nu
open PySem PySem.Spec PyProof.Rows L2
/-! ### plans over sets of worlds -/
abbrev WS := (Nat → Int) → Prop
def Single (n : Nat) (S : WS) : Prop := ∀ f g, S f → S g → ∀ i, i < n → f i = g i
def CanW (n : Nat) : Nat → WS → Prop
  | 0, S => Single n S
  | d + 1, S => Single n S ∨ ∃ (k : Nat) (m : Int), k < n ∧ (∃ f, S f ∧ m ≤ f k) ∧ (∃ f, S f ∧ f k < m) ∧ CanW n d (fun f => S f ∧ m ≤ f k) ∧ CanW n d (fun f => S f ∧ f k < m)
theorem CanW.succ {n : Nat} : ∀ {d : Nat} {S : WS}, CanW n d S → CanW n (d + 1) S
  | 0, _, h => .inl h
  | d + 1, _, h => h.elim .inl fun ⟨k, m, hk, y, z, h1, h2⟩ => .inr ⟨k, m, hk, y, z, h1.succ, h2.succ⟩
theorem CanW.mono {n d e : Nat} {S : WS} (h : CanW n d S) (le : d ≤ e) : CanW n e S := by
  induction le with
  | refl => exact h
  | step _ ih => exact ih.succ
def IsD (n : Nat) (S : WS) (d : Nat) : Prop := CanW n d S ∧ ∀ e, e < d → ¬ CanW n e S
theorem IsD.uniq {n d e : Nat} {S : WS} (a : IsD n S d) (b : IsD n S e) : d = e := by
  by_cases h : d < e
  · exact absurd a.1 (b.2 d h)
  · by_cases h' : e < d
    · exact absurd b.1 (a.2 e h')
    · omega
theorem IsD.le {n d e : Nat} {S : WS} (a : IsD n S d) (h : CanW n e S) : d ≤ e := by
  by_cases c : e < d
  · exact absurd h (a.2 e c)
  · omega
theorem ws_ext {S S' : WS} (h : ∀ f, S f ↔ S' f) : S = S' := funext fun f => propext (h f)
theorem IsD.zero {n : Nat} {S : WS} (h : Single n S) : IsD n S 0 := ⟨h, fun e he => absurd he (Nat.not_lt_zero _)⟩
/-- one more than the least of all looks -/
theorem IsD.step {n x : Nat} {S : WS} {k0 : Nat} {m0 : Int} {dy dn : Nat} (hk : k0 < n) (y : ∃ f, S f ∧ m0 ≤ f k0) (z : ∃ f, S f ∧ f k0 < m0) (hy : IsD n (fun f => S f ∧ m0 ≤ f k0) dy) (hn : IsD n (fun f => S f ∧ f k0 < m0) dn) (hx : x = max dy dn)
    (best : ∀ (k : Nat) (m : Int), k < n → (∃ f, S f ∧ m ≤ f k) → (∃ f, S f ∧ f k < m) → ∃ ey en, IsD n (fun f => S f ∧ m ≤ f k) ey ∧ IsD n (fun f => S f ∧ f k < m) en ∧ x ≤ max ey en) : IsD n S (x + 1) := by
  have ns : ¬ Single n S := fun h => by
    obtain ⟨f, hf, h1⟩ := y
    obtain ⟨g, hg, h2⟩ := z
    have := h f g hf hg k0 hk
    omega
  refine ⟨.inr ⟨k0, m0, hk, y, z, hy.1.mono (by omega), hn.1.mono (by omega)⟩, fun e he h => ?_⟩
  cases e with
  | zero => exact ns h
  | succ e =>
    rcases h with h | ⟨k, m, hk', y', z', h1, h2⟩
    · exact ns h
    · obtain ⟨ey, en, a1, a2, a3⟩ := best k m hk' y' z'
      have b1 := a1.le h1
      have b2 := a2.le h2
      omega
/-! ### the same shape -/
def ExtW (n : Nat) (S : WS) : Prop := ∀ f g, (∀ i, i < n → f i = g i) → S f → S g
structure TrW (n : Nat) (S S' : WS) (π ρ : Nat → Nat) (a : Nat → Int) : Prop where
  p : ∀ i, i < n → π i < n ∧ ρ (π i) = i
  r : ∀ i, i < n → ρ i < n ∧ π (ρ i) = i
  e : ∀ g, S' g ↔ S (fun i => g (π i) + a i)
theorem TrW.back {n : Nat} {S S' : WS} {π ρ : Nat → Nat} {a : Nat → Int} (t : TrW n S S' π ρ a) (x : ExtW n S) {f : Nat → Int} (h : S f) : S' (fun j => f (ρ j) - a (ρ j)) := by
  rw [t.e]
  refine x f _ (fun i hi => ?_) h
  show f i = f (ρ (π i)) - a (ρ (π i)) + a i
  rw [(t.p i hi).2]
  omega
theorem CanW.tr {n : Nat} {π ρ : Nat → Nat} {a : Nat → Int} : ∀ {d : Nat} {S S' : WS}, TrW n S S' π ρ a → ExtW n S → CanW n d S → CanW n d S' := by
  have sg : ∀ {S S' : WS}, TrW n S S' π ρ a → Single n S → Single n S' := fun {S S'} t h f g hf hg j hj => by
    have h1 := h _ _ ((t.e f).mp hf) ((t.e g).mp hg) (ρ j) (t.r j hj).1
    have h1 : f (π (ρ j)) + a (ρ j) = g (π (ρ j)) + a (ρ j) := h1
    rw [(t.r j hj).2] at h1
    omega
  intro d
  induction d with
  | zero => exact fun t _ h => sg t h
  | succ d ih =>
    intro S S' t x h
    rcases h with h | ⟨k, m, hk, ⟨f, hf, h1⟩, ⟨g, hg, h2⟩, h3, h4⟩
    · exact .inl (sg t h)
    · refine .inr ⟨π k, m - a k, (t.p k hk).1, ⟨_, t.back x hf, ?_⟩, ⟨_, t.back x hg, ?_⟩, ih (S := fun f => S f ∧ m ≤ f k) ⟨t.p, t.r, fun q => ?_⟩ (fun u v e hu => ⟨x u v e hu.1, by rw [← e k hk]; exact hu.2⟩) h3,
        ih (S := fun f => S f ∧ f k < m) ⟨t.p, t.r, fun q => ?_⟩ (fun u v e hu => ⟨x u v e hu.1, by rw [← e k hk]; exact hu.2⟩) h4⟩
      · show m - a k ≤ f (ρ (π k)) - a (ρ (π k))
        rw [(t.p k hk).2]
        omega
      · show g (ρ (π k)) - a (ρ (π k)) < m - a k
        rw [(t.p k hk).2]
        omega
      · show (S' q ∧ m - a k ≤ q (π k)) ↔ (S (fun i => q (π i) + a i) ∧ m ≤ q (π k) + a k)
        rw [t.e]
        exact and_congr_right fun _ => by omega
      · show (S' q ∧ q (π k) < m - a k) ↔ (S (fun i => q (π i) + a i) ∧ q (π k) + a k < m)
        rw [t.e]
        exact and_congr_right fun _ => by omega
/-- a permutation of the places -/
theorem perm_ix {α : Type} {xs ys : List α} (h : xs.Perm ys) : ∃ π ρ : Nat → Nat, (∀ i, i < xs.length → π i < xs.length ∧ ρ (π i) = i) ∧ (∀ i, i < xs.length → ρ i < xs.length ∧ π (ρ i) = i) ∧ ∀ i, i < xs.length → ys[π i]? = xs[i]? := by
  induction h with
  | nil => exact ⟨id, id, fun i h => absurd h (Nat.not_lt_zero _), fun i h => absurd h (Nat.not_lt_zero _), fun i h => absurd h (Nat.not_lt_zero _)⟩
  | cons x h ih =>
    obtain ⟨π, ρ, h1, h2, h3⟩ := ih
    refine ⟨fun i => match i with | 0 => 0 | i + 1 => π i + 1, fun i => match i with | 0 => 0 | i + 1 => ρ i + 1, fun i hi => ?_, fun i hi => ?_, fun i hi => ?_⟩
    · cases i with
      | zero => exact ⟨hi, rfl⟩
      | succ i =>
        have := h1 i (by simpa using hi)
        exact ⟨by rw [List.length_cons]; show π i + 1 < _ + 1; omega, by show ρ (π i) + 1 = i + 1; rw [this.2]⟩
    · cases i with
      | zero => exact ⟨hi, rfl⟩
      | succ i =>
        have := h2 i (by simpa using hi)
        exact ⟨by rw [List.length_cons]; show ρ i + 1 < _ + 1; omega, by show π (ρ i) + 1 = i + 1; rw [this.2]⟩
    · cases i with
      | zero => rfl
      | succ i => exact h3 i (by simpa using hi)
  | swap x y l =>
    refine ⟨fun i => match i with | 0 => 1 | 1 => 0 | i + 2 => i + 2, fun i => match i with | 0 => 1 | 1 => 0 | i + 2 => i + 2, fun i hi => ?_, fun i hi => ?_, fun i hi => ?_⟩
    · match i, hi with
      | 0, _ => exact ⟨by simp, rfl⟩
      | 1, _ => exact ⟨by simp, rfl⟩
      | i + 2, hi => exact ⟨hi, rfl⟩
    · match i, hi with
      | 0, _ => exact ⟨by simp, rfl⟩
      | 1, _ => exact ⟨by simp, rfl⟩
      | i + 2, hi => exact ⟨hi, rfl⟩
    · match i, hi with
      | 0, _ => rfl
      | 1, _ => rfl
      | i + 2, hi => rfl
  | trans h1 h2 ih1 ih2 =>
    obtain ⟨π, ρ, a1, a2, a3⟩ := ih1
    obtain ⟨π', ρ', b1, b2, b3⟩ := ih2
    have l := h1.length_eq
    rw [← l] at b1 b2 b3
    refine ⟨fun i => π' (π i), fun i => ρ (ρ' i), fun i hi => ?_, fun i hi => ?_, fun i hi => ?_⟩
    · have e1 := a1 i hi
      have e2 := b1 _ e1.1
      exact ⟨e2.1, by show ρ (ρ' (π' (π i))) = i; rw [e2.2, e1.2]⟩
    · have e1 := b2 i hi
      have e2 := a2 _ e1.1
      exact ⟨e2.1, by show π' (π (ρ (ρ' i))) = i; rw [e2.2, e1.2]⟩
    · have e1 := a1 i hi
      rw [b3 _ e1.1, a3 i hi]
theorem sum_perm {g : Nat → Int} {π ρ : Nat → Nat} {n : Nat} (hn : n ≤ 3) (h1 : ∀ i, i < n → π i < n ∧ ρ (π i) = i) : sumF (fun i => g (π i)) n = sumF g n := by
  have inj : ∀ i j, i < n → j < n → π i = π j → i = j := fun i j hi hj e => by rw [← (h1 i hi).2, ← (h1 j hj).2, e]
  have : n = 0 ∨ n = 1 ∨ n = 2 ∨ n = 3 := by omega
  rcases this with rfl | rfl | rfl | rfl
  · rfl
  · have := (h1 0 (by decide)).1
    have e : π 0 = 0 := by omega
    show 0 + g (π 0) = 0 + g 0
    rw [e]
  · have p0 := (h1 0 (by decide)).1
    have p1 := (h1 1 (by decide)).1
    have i01 := inj 0 1 (by decide) (by decide)
    show 0 + g (π 0) + g (π 1) = 0 + g 0 + g 1
    have : (π 0 = 0 ∧ π 1 = 1) ∨ (π 0 = 1 ∧ π 1 = 0) := by omega
    rcases this with ⟨e, e'⟩ | ⟨e, e'⟩ <;> rw [e, e'] <;> omega
  · have p0 := (h1 0 (by decide)).1
    have p1 := (h1 1 (by decide)).1
    have p2 := (h1 2 (by decide)).1
    have i01 := inj 0 1 (by decide) (by decide)
    have i02 := inj 0 2 (by decide) (by decide)
    have i12 := inj 1 2 (by decide) (by decide)
    show 0 + g (π 0) + g (π 1) + g (π 2) = 0 + g 0 + g 1 + g 2
    have : (π 0 = 0 ∧ π 1 = 1 ∧ π 2 = 2) ∨ (π 0 = 0 ∧ π 1 = 2 ∧ π 2 = 1) ∨ (π 0 = 1 ∧ π 1 = 0 ∧ π 2 = 2) ∨ (π 0 = 1 ∧ π 1 = 2 ∧ π 2 = 0) ∨ (π 0 = 2 ∧ π 1 = 0 ∧ π 2 = 1) ∨ (π 0 = 2 ∧ π 1 = 1 ∧ π 2 = 0) := by omega
    rcases this with ⟨e, e', e''⟩ | ⟨e, e', e''⟩ | ⟨e, e', e''⟩ | ⟨e, e', e''⟩ | ⟨e, e', e''⟩ | ⟨e, e', e''⟩ <;> rw [e, e', e''] <;> omega
theorem sumF_add (f g : Nat → Int) : ∀ n : Nat, sumF (fun i => f i + g i) n = sumF f n + sumF g n
  | 0 => rfl
  | n + 1 => by
    show sumF (fun i => f i + g i) n + (f n + g n) = sumF f n + f n + (sumF g n + g n)
    rw [sumF_add f g n]
    omega
theorem sumF_sub (f g : Nat → Int) : ∀ n : Nat, sumF (fun i => f i - g i) n = sumF f n - sumF g n
  | 0 => rfl
  | n + 1 => by
    show sumF (fun i => f i - g i) n + (f n - g n) = sumF f n + f n - (sumF g n + g n)
    rw [sumF_sub f g n]
    omega
theorem Wd.ext {lw hg : Nat → Int} {n : Nat} {c : Option Int} : ExtW n (Wd lw hg n c) := fun f g e h => ⟨fun i hi => by rw [← e i hi]; exact h.1 i hi, fun x hx => by rw [← sumF_congr e]; exact h.2 x hx⟩
def wid (lw hg : Nat → Int) : Nat → Int := fun i => hg i - lw i
theorem shape_can {lw hg lw' hg' : Nat → Int} {n : Nat} {c c' : Option Int} (hn : n ≤ 3) (hp : (LI (wid lw hg) n).Perm (LI (wid lw' hg') n)) (hc : (c.map fun x => x - sumF lw n) = c'.map fun x => x - sumF lw' n) {d : Nat} (h : CanW n d (Wd lw hg n c)) : CanW n d (Wd lw' hg' n c') := by
  obtain ⟨π, ρ, h1, h2, h3⟩ := perm_ix hp
  rw [LI_len] at h1 h2 h3
  have ew : ∀ i, i < n → wid lw' hg' (π i) = wid lw hg i := fun i hi => by
    have := h3 i hi
    rw [LI_at _ hi, LI_at _ (h1 i hi).1] at this
    exact Option.some.inj this
  refine CanW.tr (π := π) (ρ := ρ) (a := fun i => lw i - lw' (π i)) ⟨h1, h2, fun g => ?_⟩ Wd.ext h
  have es : sumF (fun i => g (π i) + (lw i - lw' (π i))) n = sumF g n + (sumF lw n - sumF lw' n) := by
    rw [sumF_add, sumF_sub, sum_perm hn h1, sum_perm (g := lw') hn h1]
  have ec : (∀ x, c' = some x → sumF g n = x) ↔ (∀ x, c = some x → sumF (fun i => g (π i) + (lw i - lw' (π i))) n = x) := by
    rw [es]
    cases c with
    | none =>
      cases c' with
      | none => exact ⟨fun _ x e => by (cases e), fun _ x e => by (cases e)⟩
      | some y => cases hc
    | some z =>
      cases c' with
      | none => cases hc
      | some y =>
        have e : z - sumF lw n = y - sumF lw' n := Option.some.inj hc
        exact ⟨fun q x e' => by
          cases e'
          have := q y rfl
          omega, fun q x e' => by
          cases e'
          have := q z rfl
          omega⟩
  unfold Wd
  rw [ec]
  refine and_congr_left fun _ => ?_
  constructor
  · intro q i hi
    have a := q (π i) (h1 i hi).1
    have b := ew i hi
    unfold wid at b
    show lw i ≤ g (π i) + (lw i - lw' (π i)) ∧ g (π i) + (lw i - lw' (π i)) ≤ hg i
    omega
  · intro q j hj
    have a := q (ρ j) (h2 j hj).1
    have b := ew (ρ j) (h2 j hj).1
    unfold wid at b
    have a : lw (ρ j) ≤ g (π (ρ j)) + (lw (ρ j) - lw' (π (ρ j))) ∧ g (π (ρ j)) + (lw (ρ j) - lw' (π (ρ j))) ≤ hg (ρ j) := a
    rw [(h2 j hj).2] at a b
    omega
theorem shape_isD {lw hg lw' hg' : Nat → Int} {n : Nat} {c c' : Option Int} (hn : n ≤ 3) (hp : (LI (wid lw hg) n).Perm (LI (wid lw' hg') n)) (hc : (c.map fun x => x - sumF lw n) = c'.map fun x => x - sumF lw' n) {d : Nat} (h : IsD n (Wd lw hg n c) d) : IsD n (Wd lw' hg' n c') d :=
  ⟨shape_can hn hp hc h.1, fun e he z => h.2 e he (shape_can hn hp.symm hc.symm z)⟩
end Nu
namespace Nu
open PySem PySem.Spec PyProof.Rows L2
/-! ### shapes -/
def relC (lw : Nat → Int) (n : Nat) (c : Option Int) : Option Int := c.map fun x => x - sumF lw n
def keyN (ws : List Int) (r : Option Int) : NestedKey := .tup [.tup (ws.map .num), match r with | none => .none | some x => .num x]
theorem depthAll_nums : ∀ ws : List Int, NestedKey.depthAll (ws.map .num) = 0
  | [] => rfl
  | x :: r => by
    rw [List.map_cons]
    unfold NestedKey.depthAll
    rw [depthAll_nums r]
    rfl
theorem keyN_depth (ws : List Int) (r : Option Int) : (keyN ws r).depth ≤ 8 := by
  unfold keyN
  have h := depthAll_nums ws
  cases r with
  | none =>
    simp only [NestedKey.depth, NestedKey.depthAll, h]
    decide
  | some x =>
    simp only [NestedKey.depth, NestedKey.depthAll, h]
    decide
theorem nums_inj : ∀ {a b : List Int}, a.map NestedKey.num = b.map NestedKey.num → a = b
  | [], [], _ => rfl
  | [], y :: b, h => by cases h
  | x :: a, [], h => by cases h
  | x :: a, y :: b, h => by
    rw [List.map_cons, List.map_cons] at h
    injection h with h1 h2
    injection h1 with h1
    rw [h1, nums_inj h2]
theorem keyN_inj {a b : List Int} {r s : Option Int} (h : keyN a r = keyN b s) : a = b ∧ r = s := by
  unfold keyN at h
  injection h with h
  injection h with h1 h2
  injection h1 with h1
  injection h2 with h2 _
  refine ⟨nums_inj h1, ?_⟩
  cases r with
  | none =>
    cases s with
    | none => rfl
    | some y => cases h2
  | some x =>
    cases s with
    | none => cases h2
    | some y =>
      injection h2 with h2
      rw [h2]
theorem nk_nums {H : Hp} : ∀ ws : List Int, NkAll H (ws.map .num) (ws.map V.int)
  | [] => .nil
  | x :: r => .cons (.int x) (nk_nums r)
section
variable {P : Program} {w : World} {K : PySem.W.Frag} {mg : Str → Option Value} {base : Heap} {a : Ad} {fd : Fd}
def spShape : Sp := fun vs H Q _ => ∃ (v : V) (lw hg : Nat → Int) (n : Nat) (c : Option Int), vs = [v] ∧ BoxH H v lw hg n n c ∧ n ≤ 3 ∧
  ∀ t ws H', Same H H' → NkV H' (keyN ws (relC lw n c)) (.ref t) → ws.Perm (LI (wid lw hg) n) → ws.Pairwise (· ≤ ·) → Q (.ref t) H'
theorem ok_shape (T : Txt K mg a fd) : FnOk P w K mg base CX0 1 a.shape fd.shape ["box"] spShape := by
  refine T.F_shape.ok sc_shape (fun vs H Q E h => ?_) (fun cdv A outer s H vs Q E hr h => ?_)
  · obtain ⟨v, lw, hg, n, c, rfl, _⟩ := h
    rfl
  · obtain ⟨v, lw, hg, n, c, rfl, ⟨b, p, q, rfl, hb, hp, hq⟩, hn, k⟩ := h
    refine ⟨_, (pss_cons (ps_asg (pv 0) (pg_tup (by rfl) (pgs_cons (pg_name (i := 1) sc_shape.nd rfl (Or.inl rfl)) (pgs_cons (pg_name (i := 2) sc_shape.nd rfl (Or.inl rfl)) (pgs_cons (pg_name (i := 3) sc_shape.nd rfl (Or.inl rfl)) pgs_nil)))))
    (pss_cons (ps_set (i := 4) sc_shape.nd rfl (Or.inl rfl) (pe_callTy call_tuple_of (by rfl) T.n_tuple (by decide +kernel) (pa_cons (pe_callB cr_sortedI (by rfl) T.n_sorted (by decide +kernel) (pa_cons (pe_lc (own := [("low", 5), ("high", 6)]) (g := (gTup K 2 (gCons (gName 5) (gCons (gName 6) gNil)))) (by rfl) sc_shape.nd (RZ.pi_zipA (by rfl) T.n_zip (pa_cons (pv 1) (pa_cons (pv 2) pa_nil))) (blkOk_by (own := [("low", 5), ("high", 6)]) (N := ["box", "lows", "highs", "total", "widths", "low", "high"]) (sc := defScope s_shape) (by decide +kernel)) (fun _ _ _ _ _ => pg_tupK (K := K) rfl (by rfl) (pgs_cons (pg_name (i := 5) sc_shape.nd rfl (Or.inl rfl)) (pgs_cons (pg_name (i := 6) sc_shape.nd rfl (Or.inl rfl)) pgs_nil))) (fun _ _ _ _ _ => pts_nil) (fun _ _ _ _ _ => (pe_op op_sub (pv 6) (pv 5)))) pa_nil)) pa_nil)))
    (pss_cons (ps_if (pt_cmpR op_isN (pv 3) pe_non (nomark _)) (pss_one (ps_ret (pe_tup (pa_cons (pv 4) (pa_cons pe_non pa_nil))))) pss_nil)
    (pss_one (ps_ret (pe_tup (pa_cons (pv 4) (pa_cons (pe_op op_sub (pv 3) (pe_callB (cr_sumT rfl) (by rfl) T.n_sum (by decide +kernel) (pa_cons (pv 1) pa_nil))) pa_nil)))))))), ?_⟩
    refine ⟨_, rfl, b, _, rfl, SqT.of hb, rfl, _, _, rfl, _, _, rfl, _, _, rfl, rfl, ?_⟩
    dsimp only
    refine seq_go ?_
    refine ⟨_, rfl, _, rfl, p, q, _, _, rfl, .inr ⟨SqT.of hp, SqT.of hq, fun D nD => ?_⟩⟩
    refine lc_it (walk_zipT (n := n) (by rw [List.length_map, List.length_map, LI_len, LI_len]; omega)) (fun j H' => Same H H' ∧ H' D = some (.lst ((LI (wid lw hg) j).map V.int)))
      ⟨same_upd nD, upd_same⟩ (fun j H' _ ⟨s2, _⟩ => ⟨SqT.of (s2 _ _ hp), SqT.of (s2 _ _ hq)⟩) ?_ ?_
    · rintro j x H' H'' hj ⟨s2, hD⟩ ⟨Tz, x1, y1, rfl, nT, rfl, e1, e2⟩
      have e1 : ((LI lw n).map V.int)[j]? = some x1 := e1
      have e2 : ((LI hg n).map V.int)[j]? = some y1 := e2
      rw [List.getElem?_map, LI_at _ hj] at e1 e2
      cases e1
      cases e2
      have DT : D ≠ Tz := fun z => by rw [← z, hD] at nT; cases nT
      refine ⟨Tz, _, rfl, SqT.of upd_same, rfl, _, _, rfl, _, _, rfl, rfl, rfl, ?_⟩
      dsimp only [tYes]
      rw [if_pos rfl]
      refine ⟨_, rfl, _, rfl, _, _, rfl, rfl, ?_⟩
      refine ⟨_, by rw [upd_ne DT]; exact hD, small1000 (by rw [List.length_map, LI_len]; omega), fun c' u e => ?_, ?_⟩
      · have h2 := s2 c' u e
        rw [upd_ne (fun z => by rw [z, nD] at e; cases e), upd_ne (fun z => by rw [z, nT] at h2; cases h2)]
        exact h2
      · rw [upd_same, LI_succ, List.map_append]
        rfl
    · rintro H1 ⟨s1, hD⟩
      refine ⟨D, _, rfl, SqL.of hD, fun ws l hp1 hs1 nl => ?_⟩
      have s2 := s1.trans (same_upd (o := .lst (ws.map V.int)) nl)
      refine ⟨l, _, rfl, .inl ⟨SqL.of upd_same, fun t nt => ?_⟩⟩
      have s3 := s2.trans (same_upd (o := .tup (ws.map V.int)) nt)
      have ht : (upd (upd H1 l (.lst (ws.map V.int))) t (.tup (ws.map V.int))) t = some (.tup (ws.map V.int)) := upd_same
      generalize upd (upd H1 l (.lst (ws.map V.int))) t (.tup (ws.map V.int)) = H2 at s3 ht ⊢
      refine gName_go ?_
      try refine next_go ?_
      try refine seq_go ?_
      cases c with
      | none =>
        refine ⟨_, rfl, rfl, _, rfl, iteT ?_⟩
        refine ⟨_, rfl, (by show 2 ≤ sizeLine; decide), fun z nz => ?_⟩
        have s4 : Same H2 (upd H2 z (.tup [V.ref t, V.non])) := same_upd nz
        exact k z ws _ (s3.trans s4) (.tup upd_same (.cons (.tup (s4 _ _ ht) (nk_nums ws)) (.cons .non .nil))) hp1 hs1
      | some c =>
        refine ⟨_, rfl, rfl, _, rfl, iteF ?_⟩
        try refine next_go ?_
        refine ⟨_, rfl, _, rfl, _, rfl, p, LI lw n, rfl, SqT.of (s3 _ _ hp), _, _, rfl, rfl, (by show 2 ≤ sizeLine; decide), fun z nz => ?_⟩
        have s4 : Same H2 (upd H2 z (.tup [V.ref t, V.int (c - (LI lw n).sum)])) := same_upd nz
        refine k z ws _ (s3.trans s4) (.tup upd_same (.cons (.tup (s4 _ _ ht) (nk_nums ws)) (.cons ?_ .nil))) hp1 hs1
        rw [LI_sum]
        exact .int _
end
end Nu
namespace Nu
open PySem PySem.Spec PyProof.Rows L2
/-! ### boxes that Depths takes, and what it knows -/
structure Bx (lw hg : Nat → Int) (n : Nat) (c : Option Int) : Prop where
  nn : n ≤ 3
  sm : ∀ i, i < n → 0 ≤ lw i ∧ hg i ≤ 7
  tg : Tg lw hg n c
  oc : cOk c
abbrev YesW (lw hg : Nat → Int) (n : Nat) (c : Option Int) (k : Nat) (m : Int) : WS := fun f => Wd lw hg n c f ∧ m ≤ f k
abbrev NoW (lw hg : Nat → Int) (n : Nat) (c : Option Int) (k : Nat) (m : Int) : WS := fun f => Wd lw hg n c f ∧ f k < m
theorem sumF_lt {f g : Nat → Int} {k : Nat} : ∀ {n : Nat}, (∀ i, i < n → f i ≤ g i) → k < n → f k < g k → sumF f n < sumF g n
  | 0, _, h, _ => absurd h (Nat.not_lt_zero _)
  | n + 1, h, hk, hl => by
    have h2 := h n (by omega)
    show sumF f n + f n < sumF g n + g n
    by_cases e : k = n
    · subst e
      have h1 := sumF_mono (n := k) fun i hi => h i (by omega)
      omega
    · have h1 := sumF_lt (n := n) (fun i hi => h i (by omega)) (by omega) hl
      omega
section
variable {lw hg : Nat → Int} {n k : Nat} {c : Option Int} {m : Int}
theorem Bx.yes (B : Bx lw hg n c) (hk : k < n) (h1 : lw k < m) (h2 : m ≤ hg k) : Bx (tlF (yLo lw k m) hg n c) (thF (yLo lw k m) hg n c) n c ∧ sumF (wid (tlF (yLo lw k m) hg n c) (thF (yLo lw k m) hg n c)) n < sumF (wid lw hg) n ∧ Wd (tlF (yLo lw k m) hg n c) (thF (yLo lw k m) hg n c) n c = YesW lw hg n c k m := by
  have y := B.tg.yes hk h1 h2
  have g1 : ∀ i, yLo lw k m i ≤ tlF (yLo lw k m) hg n c i := fun i => tl_ge i
  have g2 : ∀ i, thF (yLo lw k m) hg n c i ≤ hg i := fun i => th_le i
  have g3 : ∀ i, lw i ≤ yLo lw k m i := fun i => by
    unfold yLo
    split
    · rename_i e
      subst e
      omega
    · exact Int.le_refl _
  refine ⟨⟨B.nn, fun i hi => ?_, Tg.of y.1 y.2, B.oc⟩, ?_, ?_⟩
  · have := B.sm i hi
    have := g1 i
    have := g2 i
    have := g3 i
    omega
  · refine sumF_lt (k := k) (fun i hi => ?_) hk ?_
    · have := g1 i
      have := g2 i
      have := g3 i
      unfold wid
      omega
    · have a1 := g1 k
      have := g2 k
      have e : yLo lw k m k = m := by
        unfold yLo
        rw [if_pos rfl]
      rw [e] at a1
      unfold wid
      omega
  · refine ws_ext fun f => ?_
    rw [Wd.tight_iff', Wd.yes hk (by omega)]
theorem Bx.no (B : Bx lw hg n c) (hk : k < n) (h1 : lw k < m) (h2 : m ≤ hg k) : Bx (tlF lw (yLo hg k (m - 1)) n c) (thF lw (yLo hg k (m - 1)) n c) n c ∧ sumF (wid (tlF lw (yLo hg k (m - 1)) n c) (thF lw (yLo hg k (m - 1)) n c)) n < sumF (wid lw hg) n ∧ Wd (tlF lw (yLo hg k (m - 1)) n c) (thF lw (yLo hg k (m - 1)) n c) n c = NoW lw hg n c k m := by
  have y := B.tg.no hk h1 h2
  have g1 : ∀ i, lw i ≤ tlF lw (yLo hg k (m - 1)) n c i := fun i => tl_ge i
  have g2 : ∀ i, thF lw (yLo hg k (m - 1)) n c i ≤ yLo hg k (m - 1) i := fun i => th_le i
  have g3 : ∀ i, yLo hg k (m - 1) i ≤ hg i := fun i => by
    unfold yLo
    split
    · rename_i e
      subst e
      omega
    · exact Int.le_refl _
  refine ⟨⟨B.nn, fun i hi => ?_, Tg.of y.1 y.2, B.oc⟩, ?_, ?_⟩
  · have := B.sm i hi
    have := g1 i
    have := g2 i
    have := g3 i
    omega
  · refine sumF_lt (k := k) (fun i hi => ?_) hk ?_
    · have := g1 i
      have := g2 i
      have := g3 i
      unfold wid
      omega
    · have a1 := g2 k
      have := g1 k
      have e : yLo hg k (m - 1) k = m - 1 := by
        unfold yLo
        rw [if_pos rfl]
      rw [e] at a1
      unfold wid
      omega
  · refine ws_ext fun f => ?_
    rw [Wd.tight_iff', Wd.no hk (by omega)]
theorem Bx.wid_nn (B : Bx lw hg n c) : 0 ≤ sumF (wid lw hg) n ∧ sumF (wid lw hg) n ≤ 21 := by
  have h := sumF_bound (f := wid lw hg) (b := 7) (n := n) fun i hi => by
    have := B.sm i hi
    have := B.tg.le i hi
    unfold wid
    omega
  have := B.nn
  omega
/-- no look: one world -/
theorem Bx.flat (B : Bx lw hg n c) (h : lks lw hg n = []) : IsD n (Wd lw hg n c) 0 := by
  have e : ∀ i, i < n → lw i = hg i := fun i hi => by
    have := B.tg.le i hi
    by_cases q : lw i = hg i
    · exact q
    · have : [(i : Int), hg i] ∈ lks lw hg n := mem_lks.mpr ⟨i, hg i, hi, by omega, Int.le_refl _, rfl⟩
      rw [h] at this
      cases this
  refine IsD.zero fun f g hf hg' i hi => ?_
  have := hf.1 i hi
  have := hg'.1 i hi
  have := e i hi
  omega
end
/-! ### the rows that are rated -/
def Rated (lw hg : Nat → Int) (n : Nat) (c : Option Int) (j : Nat) (rs : List T3) : Prop := rs.length = j ∧ ∀ (i : Nat) (x : T3), rs[i]? = some x → ∃ (k : Nat) (m : Int) (ey en : Nat), k < n ∧ lw k + 1 ≤ m ∧ m ≤ hg k ∧ (lks lw hg n)[i]? = some [(k : Int), m] ∧ x = (((max ey en : Nat) : Int), ((k : Int), m)) ∧ IsD n (YesW lw hg n c k m) ey ∧ IsD n (NoW lw hg n c k m) en
theorem Rated.nil {lw hg : Nat → Int} {n : Nat} {c : Option Int} : Rated lw hg n c 0 [] := ⟨rfl, fun i x e => by simp at e⟩
theorem Rated.snoc {lw hg : Nat → Int} {n : Nat} {c : Option Int} {j : Nat} {rs : List T3} (R : Rated lw hg n c j rs) {k : Nat} {m : Int} {ey en : Nat} (hk : k < n) (h1 : lw k + 1 ≤ m) (h2 : m ≤ hg k) (e : (lks lw hg n)[j]? = some [(k : Int), m]) (hy : IsD n (YesW lw hg n c k m) ey) (hn : IsD n (NoW lw hg n c k m) en) :
    Rated lw hg n c (j + 1) (rs ++ [(((max ey en : Nat) : Int), ((k : Int), m))]) := by
  refine ⟨by rw [List.length_append, R.1]; rfl, fun i x a => ?_⟩
  by_cases q : i < rs.length
  · rw [List.getElem?_append_left q] at a
    exact R.2 i x a
  · rw [List.getElem?_append_right (by omega)] at a
    have z : i - rs.length = 0 := by
      by_cases z : i - rs.length = 0
      · exact z
      · rw [List.getElem?_eq_none (by simp; omega)] at a
        cases a
    rw [z] at a
    cases a
    have hi : i = j := by have := R.1; omega
    subst hi
    exact ⟨k, m, ey, en, hk, h1, h2, e, rfl, hy, hn⟩
/-- the least row -/
theorem Rated.best {lw hg : Nat → Int} {n : Nat} {c : Option Int} {rs : List T3} (B : Bx lw hg n c) (R : Rated lw hg n c (lks lw hg n).length rs) {i : Nat} {x : T3} (e : rs[i]? = some x) (mn : ∀ y ∈ rs, x.1 ≤ y.1) :
    ∃ (k : Nat) (m : Int) (ey en : Nat), k < n ∧ lw k + 1 ≤ m ∧ m ≤ hg k ∧ x = (((max ey en : Nat) : Int), ((k : Int), m)) ∧ IsD n (YesW lw hg n c k m) ey ∧ IsD n (NoW lw hg n c k m) en ∧ IsD n (Wd lw hg n c) (max ey en + 1) := by
  obtain ⟨k, m, ey, en, hk, h1, h2, _, rfl, hy, hn⟩ := R.2 i x e
  refine ⟨k, m, ey, en, hk, h1, h2, rfl, hy, hn, ?_⟩
  have ex : ∀ z, lw k ≤ z → z ≤ hg k → ∃ f, Wd lw hg n c f ∧ f k = z := fun z a b => (B.tg.at_ hk z).mpr ⟨a, b⟩
  obtain ⟨f, hf, ef⟩ := ex m (by omega) h2
  obtain ⟨g, hg', eg⟩ := ex (m - 1) (by omega) (by omega)
  refine IsD.step hk ⟨f, hf, by omega⟩ ⟨g, hg', by omega⟩ hy hn rfl fun k' m' hk' ⟨u, hu, hu'⟩ ⟨v, hv, hv'⟩ => ?_
  have b1 := (hu.1 k' hk').2
  have b2 := (hv.1 k' hk').1
  have hm : [(k' : Int), m'] ∈ lks lw hg n := mem_lks.mpr ⟨k', m', hk', by omega, by omega, rfl⟩
  obtain ⟨j, hj⟩ := List.getElem?_of_mem hm
  have hj' : j < rs.length := by
    rw [R.1]
    exact (List.getElem?_eq_some_iff.mp hj).1
  obtain ⟨k2, m2, ey2, en2, _, _, _, e2, e3, hy2, hn2⟩ := R.2 j _ (List.getElem?_eq_getElem hj')
  rw [hj] at e2
  injection e2 with e2
  injection e2 with e2 e4
  injection e4 with e4 _
  have ek : k2 = k' := by omega
  subst ek
  subst e4
  refine ⟨ey2, en2, hy2, hn2, ?_⟩
  have := mn _ (List.getElem_mem hj')
  rw [e3] at this
  have : ((max ey en : Nat) : Int) ≤ ((max ey2 en2 : Nat) : Int) := this
  omega
/-! ### what is known -/
abbrev KKey := List Int × Option Int
abbrev KEnt := KKey × Addr × Nat
def entN (e : KEnt) : NEnt := (keyN e.1.1 e.1.2, e.2.1, .int ((e.2.2 : Nat) : Int))
structure KeyOf (lw hg : Nat → Int) (n : Nat) (c : Option Int) (k : KKey) : Prop where
  p : k.1.Perm (LI (wid lw hg) n)
  s : k.1.Pairwise (· ≤ ·)
  r : k.2 = relC lw n c
theorem sorted_perm {x y : List Int} (h : x.Perm y) (hx : x.Pairwise (· ≤ ·)) (hy : y.Pairwise (· ≤ ·)) : x = y := h.eq_of_pairwise (fun a b _ _ h1 h2 => Int.le_antisymm h1 h2) hx hy
theorem KeyOf.uniq {lw hg : Nat → Int} {n : Nat} {c : Option Int} {k k' : KKey} (a : KeyOf lw hg n c k) (b : KeyOf lw hg n c k') : k = k' := by
  have h1 := sorted_perm (a.p.trans b.p.symm) a.s b.s
  have h2 : k.2 = k'.2 := a.r.trans b.r.symm
  exact Prod.ext h1 h2
theorem KeyOf.isD {lw hg lw' hg' : Nat → Int} {n n' : Nat} {c c' : Option Int} {k : KKey} (a : KeyOf lw hg n c k) (b : KeyOf lw' hg' n' c' k) (hn : n ≤ 3) {d : Nat} (h : IsD n (Wd lw hg n c) d) : IsD n' (Wd lw' hg' n' c') d := by
  have e : n = n' := by
    have h1 := a.p.length_eq
    have h2 := b.p.length_eq
    rw [LI_len] at h1 h2
    omega
  subst e
  refine shape_isD hn (a.p.symm.trans b.p) ?_ h
  have := a.r.symm.trans b.r
  exact this
structure KnOk (kn : List KEnt) : Prop where
  nd : (kn.map (·.1)).Nodup
  ok : ∀ e ∈ kn, ∃ lw hg n c, Bx lw hg n c ∧ KeyOf lw hg n c e.1 ∧ IsD n (Wd lw hg n c) e.2.2
theorem KnOk.nil : KnOk [] := ⟨List.nodup_nil, fun e h => by cases h⟩
theorem KnOk.get {kn : List KEnt} (h : KnOk kn) {e : KEnt} (he : e ∈ kn) {lw hg : Nat → Int} {n : Nat} {c : Option Int} (k : KeyOf lw hg n c e.1) : IsD n (Wd lw hg n c) e.2.2 := by
  obtain ⟨lw', hg', n', c', B, k', d⟩ := h.ok e he
  exact k'.isD k B.nn d
theorem KnOk.snoc {kn : List KEnt} (h : KnOk kn) {lw hg : Nat → Int} {n : Nat} {c : Option Int} {k : KKey} {t : Addr} {d : Nat} (B : Bx lw hg n c) (hk : KeyOf lw hg n c k) (hd : IsD n (Wd lw hg n c) d) (nk : k ∉ kn.map (·.1)) : KnOk (kn ++ [(k, t, d)]) := by
  refine ⟨?_, fun e he => ?_⟩
  · rw [List.map_append, List.map_cons, List.map_nil]
    refine List.nodup_append.mpr ⟨h.nd, List.nodup_cons.mpr ⟨(by simp), List.nodup_nil⟩, fun x hx y hy z => ?_⟩
    rw [List.mem_singleton.mp hy] at z
    rw [z] at hx
    exact nk hx
  · rcases List.mem_append.mp he with he | he
    · exact h.ok e he
    · rw [List.mem_singleton.mp he]
      exact ⟨lw, hg, n, c, B, hk, hd⟩
structure KOk (k : KKey) : Prop where
  len : k.1.length ≤ 3
  at_ : ∀ x ∈ k.1, 0 ≤ x ∧ x ≤ 7
  r : ∀ x, k.2 = some x → 0 ≤ x ∧ x ≤ 21
theorem KeyOf.kok {lw hg : Nat → Int} {n : Nat} {c : Option Int} {k : KKey} (B : Bx lw hg n c) (a : KeyOf lw hg n c k) : KOk k := by
  refine ⟨?_, fun x hx => ?_, fun x e => ?_⟩
  · rw [a.p.length_eq, LI_len]
    exact B.nn
  · obtain ⟨i, hi, rfl⟩ := mem_LI.mp (a.p.mem_iff.mp hx)
    have := B.sm i hi
    have := B.tg.le i hi
    unfold wid
    omega
  · rw [a.r] at e
    unfold relC at e
    cases c with
    | none => cases e
    | some c =>
      have e : c - sumF lw n = x := Option.some.inj e
      have nb := B.tg.nb
      have h1 : ¬ c < sumF lw n := fun z => nb ⟨c, rfl, .inl z⟩
      have h2 : ¬ c > sumF hg n := fun z => nb ⟨c, rfl, .inr z⟩
      have h3 := B.wid_nn
      unfold wid at h3
      rw [sumF_sub] at h3
      omega
def encO : Option Int → Int
  | none => 0
  | some x => x + 1
def encK (k : KKey) : Int := 1 + ((encO k.1[0]? * 9 + encO k.1[1]?) * 9 + encO k.1[2]?) * 23 + encO k.2
theorem encO_inj {x y : Option Int} (hx : ∀ z, x = some z → 0 ≤ z) (hy : ∀ z, y = some z → 0 ≤ z) (h : encO x = encO y) : x = y := by
  cases x with
  | none =>
    cases y with
    | none => rfl
    | some y =>
      have := hy y rfl
      have h : (0 : Int) = y + 1 := h
      omega
  | some x =>
    cases y with
    | none =>
      have := hx x rfl
      have h : x + 1 = 0 := h
      omega
    | some y =>
      have h : x + 1 = y + 1 := h
      rw [show x = y by omega]
theorem KOk.b {k : KKey} (h : KOk k) (i : Nat) : (∀ z, k.1[i]? = some z → 0 ≤ z) ∧ 0 ≤ encO k.1[i]? ∧ encO k.1[i]? ≤ 8 := by
  refine ⟨fun z e => (h.at_ z (List.mem_of_getElem? e)).1, ?_⟩
  cases e : k.1[i]? with
  | none => exact ⟨by decide, by decide⟩
  | some x =>
    have := h.at_ x (List.mem_of_getElem? e)
    show 0 ≤ x + 1 ∧ x + 1 ≤ 8
    omega
theorem KOk.rb {k : KKey} (h : KOk k) : (∀ z, k.2 = some z → 0 ≤ z) ∧ 0 ≤ encO k.2 ∧ encO k.2 ≤ 22 := by
  refine ⟨fun z e => (h.r z e).1, ?_⟩
  cases e : k.2 with
  | none => exact ⟨by decide, by decide⟩
  | some x =>
    have := h.r x e
    show 0 ≤ x + 1 ∧ x + 1 ≤ 22
    omega
theorem encK_inj {k k' : KKey} (h : KOk k) (h' : KOk k') (e : encK k = encK k') : k = k' := by
  have a0 := h.b 0
  have a1 := h.b 1
  have a2 := h.b 2
  have b0 := h'.b 0
  have b1 := h'.b 1
  have b2 := h'.b 2
  have ar := h.rb
  have br := h'.rb
  unfold encK at e
  have e0 := encO_inj a0.1 b0.1 (by omega)
  have e1 := encO_inj a1.1 b1.1 (by omega)
  have e2 := encO_inj a2.1 b2.1 (by omega)
  have er := encO_inj ar.1 br.1 (by omega)
  refine Prod.ext (List.ext_getElem? fun i => ?_) er
  have l1 := h.len
  have l2 := h'.len
  match i with
  | 0 => exact e0
  | 1 => exact e1
  | 2 => exact e2
  | i + 3 => rw [List.getElem?_eq_none (by omega), List.getElem?_eq_none (by omega)]
theorem le_of_nodup : ∀ (n : Nat) (l : List Int), l.Nodup → (∀ x ∈ l, 1 ≤ x ∧ x ≤ (n : Int)) → l.length ≤ n
  | 0, l, _, h => by
    cases l with
    | nil => exact Nat.le_refl _
    | cons x r => have := h x List.mem_cons_self; omega
  | n + 1, l, nd, h => by
    have h1 : (l.filter fun x => decide (x ≠ ((n : Int) + 1))).length ≤ n := by
      refine le_of_nodup n _ (nd.filter _) fun x hx => ?_
      obtain ⟨m, e⟩ := List.mem_filter.mp hx
      have := h x m
      have e' : x ≠ (n : Int) + 1 := by simpa using e
      omega
    have h2 : l.length ≤ (l.filter fun x => decide (x ≠ ((n : Int) + 1))).length + 1 := by
      have aux : ∀ (l : List Int), l.Nodup → l.length ≤ (l.filter fun x => decide (x ≠ ((n : Int) + 1))).length + 1 := by
        intro l
        induction l with
        | nil => intro _; exact Nat.zero_le _
        | cons x r ih =>
          intro nd
          obtain ⟨hx, nr⟩ := List.nodup_cons.mp nd
          by_cases e : x = (n : Int) + 1
          · have er : r.filter (fun x => decide (x ≠ ((n : Int) + 1))) = r := by
              refine List.filter_eq_self.mpr fun y hy => ?_
              have : y ≠ (n : Int) + 1 := fun z => hx (by rw [e, ← z]; exact hy)
              simpa using this
            rw [List.filter_cons_of_neg (by simp [e]), er]
            simp
          · rw [List.filter_cons_of_pos (by simpa using e)]
            have := ih nr
            simp only [List.length_cons]
            omega
      exact aux l nd
    omega
theorem nodup_map {α β : Type} {f : α → β} : ∀ {l : List α}, l.Nodup → (∀ x ∈ l, ∀ y ∈ l, f x = f y → x = y) → (l.map f).Nodup
  | [], _, _ => List.nodup_nil
  | x :: l, nd, h => by
    obtain ⟨h1, h2⟩ := List.nodup_cons.mp nd
    rw [List.map_cons]
    refine List.nodup_cons.mpr ⟨fun z => ?_, nodup_map h2 fun a ha b hb => h a (List.mem_cons_of_mem _ ha) b (List.mem_cons_of_mem _ hb)⟩
    obtain ⟨y, hy, e⟩ := List.mem_map.mp z
    have := h y (List.mem_cons_of_mem _ hy) x List.mem_cons_self e
    exact h1 (this ▸ hy)
theorem KnOk.len {kn : List KEnt} (h : KnOk kn) : kn.length ≤ 20000 := by
  have kok : ∀ k ∈ kn.map (·.1), KOk k := fun k hk => by
    obtain ⟨e, he, rfl⟩ := List.mem_map.mp hk
    obtain ⟨lw, hg, n, c, B, a, _⟩ := h.ok e he
    exact a.kok B
  have nd := nodup_map (f := encK) h.nd fun x hx y hy e => encK_inj (kok x hx) (kok y hy) e
  have := le_of_nodup 20000 _ nd fun x hx => by
    obtain ⟨k, hk, rfl⟩ := List.mem_map.mp hx
    have o := kok k hk
    have a0 := o.b 0
    have a1 := o.b 1
    have a2 := o.b 2
    have ar := o.rb
    unfold encK
    omega
  simpa using this
theorem at_none {kn : List KEnt} {k : KKey} (h : atN (kn.map entN) (keyN k.1 k.2) = none) : k ∉ kn.map (·.1) := by
  intro hk
  obtain ⟨e, he, rfl⟩ := List.mem_map.mp hk
  unfold atN at h
  have h := Option.map_eq_none_iff.mp h
  have := List.find?_eq_none.mp h (entN e) (List.mem_map_of_mem he)
  exact this (decide_eq_true rfl)
theorem at_some {kn : List KEnt} {k : KKey} (h : k ∈ kn.map (·.1)) : ∃ e ∈ kn, e.1 = k ∧ atN (kn.map entN) (keyN k.1 k.2) = some (.int ((e.2.2 : Nat) : Int)) := by
  cases q : (kn.map entN).find? fun x => decide (x.1 = keyN k.1 k.2) with
  | none =>
    exact absurd h (at_none (by
      unfold atN
      rw [q]
      rfl))
  | some y =>
    have h1 := List.mem_of_find?_eq_some q
    have h2 := List.find?_some q
    have h2 : y.1 = keyN k.1 k.2 := of_decide_eq_true h2
    obtain ⟨e, he, rfl⟩ := List.mem_map.mp h1
    have h2 : keyN e.1.1 e.1.2 = keyN k.1 k.2 := h2
    have := keyN_inj h2
    refine ⟨e, he, Prod.ext this.1 this.2, ?_⟩
    unfold atN
    rw [q]
    rfl
theorem put_new {kn : List KEnt} {k : KKey} {t : Addr} {d : Nat} (h : atN (kn.map entN) (keyN k.1 k.2) = none) : putN (kn.map entN) (keyN k.1 k.2) t (.int ((d : Nat) : Int)) = (kn ++ [(k, t, d)]).map entN := by
  unfold putN
  rw [h, List.map_append]
  rfl
/-! ### the object -/
structure DepO (P : Program) (w : World) (a : Ad) (H : Hp) (p dx d : Addr) (kn : List KEnt) : Prop where
  ob : H p = some (.ins a.C dx (putF "_known" (.ref d) []))
  di : DicH P w H d (kn.map entN)
  kn : KnOk kn
theorem DicH.mono {P : Program} {w : World} {H H' : Hp} {d : Addr} {kvs : List NEnt} (h : DicH P w H d kvs) (hd : H' d = some (DicO P w d kvs)) (s : ∀ c xs, H c = some (.tup xs) → H' c = some (.tup xs)) : DicH P w H' d kvs := ⟨hd, fun x hx => ⟨(h.key x hx).1.mono s, (h.key x hx).2⟩, h.len⟩
section
variable {P : Program} {w : World} {a : Ad} {H H' : Hp} {p dx d : Addr} {kn kn' : List KEnt}
theorem DepO.same (O : DepO P w a H p dx d kn) (s : Same H H') : DepO P w a H' p dx d kn := ⟨s _ _ O.ob, O.di.mono (s _ _ O.di.at_) fun c xs e => s c _ e, O.kn⟩
theorem DepO.tup (O : DepO P w a H p dx d kn) (k : Keep [d] H H') : ∀ c xs, H c = some (.tup xs) → H' c = some (.tup xs) := fun c xs e => k c _ e fun z => by
  rw [List.mem_singleton.mp z, O.di.at_] at e
  cases e
theorem DepO.lst (O : DepO P w a H p dx d kn) (k : Keep [d] H H') : ∀ c xs, H c = some (.lst xs) → H' c = some (.lst xs) := fun c xs e => k c _ e fun z => by
  rw [List.mem_singleton.mp z, O.di.at_] at e
  cases e
theorem DepO.nd (O : DepO P w a H p dx d kn) {l : Addr} (h : H l = none) : l ∉ [d] := fun z => by
  rw [List.mem_singleton.mp z, O.di.at_] at h
  cases h
theorem DepO.put (O : DepO P w a H p dx d kn) {k : KKey} {t : Addr} {D : Nat} {lw hg : Nat → Int} {n : Nat} {c : Option Int} (B : Bx lw hg n c) (hk : KeyOf lw hg n c k) (hd : IsD n (Wd lw hg n c) D) (hn : atN (kn.map entN) (keyN k.1 k.2) = none) (ht : NkV H (keyN k.1 k.2) (.ref t)) :
    DepO P w a (upd H d (DicO P w d (putN (kn.map entN) (keyN k.1 k.2) t (.int ((D : Nat) : Int))))) p dx d (kn ++ [(k, t, D)]) := by
  have K := O.kn.snoc (t := t) B hk hd (at_none hn)
  have pd : p ≠ d := fun z => by
    have h1 := O.ob
    rw [z, O.di.at_] at h1
    cases h1
  have st : ∀ c xs, H c = some (.tup xs) → (upd H d (DicO P w d (putN (kn.map entN) (keyN k.1 k.2) t (.int ((D : Nat) : Int))))) c = some (.tup xs) := fun c xs e => by
    rw [upd_ne (fun z => by rw [z, O.di.at_] at e; cases e)]
    exact e
  rw [put_new hn] at st ⊢
  refine ⟨by rw [upd_ne pd]; exact O.ob, ⟨upd_same, fun x hx => ?_, ?_⟩, K⟩
  · rw [List.map_append] at hx
    rcases List.mem_append.mp hx with hx | hx
    · exact ⟨(O.di.key x hx).1.mono st, (O.di.key x hx).2⟩
    · rw [List.map_cons, List.map_nil] at hx
      rw [List.mem_singleton.mp hx]
      exact ⟨ht.mono st, keyN_depth _ _⟩
  · rw [List.length_map]
    have := K.len
    omega
end
end Nu
namespace Nu
open PySem PySem.Spec PyProof.Rows L2
theorem kno {d : Addr} {m : Str} (h : ¬ m = "_known") : (putF "_known" (.ref d) []).lookup m = none := by
  rw [lookup_putF, if_neg h]
  rfl
theorem kyes {d : Addr} : (putF "_known" (.ref d) []).lookup ("_known" : Str) = some (.ref d) := by
  rw [lookup_putF, if_pos rfl]
theorem max_int (x y : Nat) : (if ((y : Nat) : Int) > ((x : Nat) : Int) then ((y : Nat) : Int) else ((x : Nat) : Int)) = ((max x y : Nat) : Int) := by
  split <;> omega
def spDep (P : Program) (w : World) (a : Ad) (N : Nat) : Sp := fun vs H Q _ => ∃ (p dx d : Addr) (kn : List KEnt) (v : V) (lw hg : Nat → Int) (n : Nat) (c : Option Int), vs = [.ref p, v] ∧ DepO P w a H p dx d kn ∧ BoxH H v lw hg n n c ∧ Bx lw hg n c ∧ sumF (wid lw hg) n < (N : Int) ∧
  ∀ (D : Nat) H' kn', Keep [d] H H' → DepO P w a H' p dx d kn' → IsD n (Wd lw hg n c) D → Q (.int ((D : Nat) : Int)) H'
def spLeft (P : Program) (w : World) (a : Ad) (N : Nat) : Sp := fun vs H Q _ => ∃ (p dx d l : Addr) (kn : List KEnt) (v : V) (lw hg : Nat → Int) (n k : Nat) (m : Int) (c : Option Int), vs = [.ref p, v, .ref l] ∧ DepO P w a H p dx d kn ∧ BoxH H v lw hg n n c ∧ Bx lw hg n c ∧ sumF (wid lw hg) n ≤ (N : Int) ∧
  H l = some (.tup [.int (k : Int), .int m]) ∧ k < n ∧ lw k + 1 ≤ m ∧ m ≤ hg k ∧
  ∀ (ey en : Nat) H' kn', Keep [d] H H' → DepO P w a H' p dx d kn' → IsD n (YesW lw hg n c k m) ey → IsD n (NoW lw hg n c k m) en → Q (.int ((max ey en : Nat) : Int)) H'
def spRate (P : Program) (w : World) (a : Ad) (N : Nat) : Sp := fun vs H Q _ => ∃ (p dx d : Addr) (kn : List KEnt) (v : V) (lw hg : Nat → Int) (n : Nat) (c : Option Int), vs = [.ref p, v] ∧ DepO P w a H p dx d kn ∧ BoxH H v lw hg n n c ∧ Bx lw hg n c ∧ sumF (wid lw hg) n ≤ (N : Int) ∧
  ∀ r ts rs H' kn', Keep [d] H H' → DepO P w a H' p dx d kn' → H r = none → H' r = some (.lst (ts.map V.ref)) → RH H' ts rs → Rated lw hg n c (lks lw hg n).length rs → Q (.ref r) H'
section
variable {P : Program} {w : World} {K : PySem.W.Frag} {mg : Str → Option Value} {base : Heap} {a : Ad} {fd : Fd} {L N : Nat}
theorem ok_left (T : Txt K mg a fd) (hL : 4 ≤ L) (G_Depths_depth_of : FnOk P w K mg base CX0 L a.Depths_depth_of fd.Depths_depth_of ["self", "box"] (spDep P w a N)) : FnOk P w K mg base CX0 (L + 1) a.Depths__left_behind fd.Depths__left_behind ["self", "box", "look"] (spLeft P w a N) := by
  have G_parted := ok_parted (P := P) (w := w) (base := base) T
  refine T.F_Depths__left_behind.ok sc_Depths__left_behind (fun vs H Q E h => ?_) (fun cdv A outer s H vs Q E hr h => ?_)
  · obtain ⟨p, dx, d, l, kn, v, lw, hg, n, k, m, c, rfl, _⟩ := h
    rfl
  · obtain ⟨p, dx, d, l, kn, v, lw, hg, n, k, m, c, rfl, O, B, X, lN, hl, hk, h1, h2, kk⟩ := h
    refine ⟨_, (pss_cons (ps_asg (pe_call G_parted (hr.mono (by omega)) (by rfl) T.g_parted T.F_parted.kp T.b_parted .nil pass0 (pa_cons (pv 1) (pa_cons (pv 2) pa_nil))) (pg_tup (by rfl) (pgs_cons (pg_name (i := 3) sc_Depths__left_behind.nd rfl (Or.inl rfl)) (pgs_cons (pg_name (i := 4) sc_Depths__left_behind.nd rfl (Or.inl rfl)) pgs_nil))))
    (pss_one (ps_ret (pe_callB (call_max2 rfl) (by rfl) T.n_max (by decide +kernel) (pa_cons (pe_meth (pv 0) T.cl T.m_Depths_depth_of G_Depths_depth_of (hr.mono (by omega)) T.b_Depths_depth_of .nil pass0 (pa_cons (pv 3) pa_nil)) (pa_cons (pe_meth (pv 0) T.cl T.m_Depths_depth_of G_Depths_depth_of (hr.mono (by omega)) T.b_Depths_depth_of .nil pass0 (pa_cons (pv 4) pa_nil)) pa_nil)))))), ?_⟩
    have y := X.yes hk (show lw k < m by omega) h2
    have z := X.no hk (show lw k < m by omega) h2
    have ty := X.tg.yes hk (show lw k < m by omega) h2
    have tn := X.tg.no hk (show lw k < m by omega) h2
    refine ⟨_, rfl, _, rfl, v, l, lw, hg, n, k, m, c, rfl, B, hl, X.nn, hk, X.oc, ty.2, tn.2, fun pp vy vn H1 s1 hp B1 B2 => ?_⟩
    refine ⟨pp, _, rfl, SqT.of hp, rfl, _, _, rfl, _, _, rfl, rfl, ?_⟩
    have O1 := O.same s1
    refine ⟨_, rfl, p, dx, _, rfl, O1.ob, kno (by decide +kernel), _, rfl, p, dx, d, kn, vy, _, _, n, c, rfl, O1, B1, y.1, by omega, fun ey H2 kn2 k2 O2 i2 => ?_⟩
    refine ⟨_, rfl, p, dx, _, rfl, O2.ob, kno (by decide +kernel), _, rfl, p, dx, d, kn2, vn, _, _, n, c, rfl, O2, B2.mono (O1.tup k2), z.1, by omega, fun en H3 kn3 k3 O3 i3 => ?_⟩
    rw [y.2.2] at i2
    rw [z.2.2] at i3
    have := kk ey en H3 kn3 (((Keep.same s1).trans k2).trans k3) O3 i2 i3
    rw [← max_int] at this
    exact ⟨_, _, rfl, this⟩
theorem ok_rated (T : Txt K mg a fd) (hL : 1 ≤ L) (G_Depths__left_behind : FnOk P w K mg base CX0 L a.Depths__left_behind fd.Depths__left_behind ["self", "box", "look"] (spLeft P w a N)) : FnOk P w K mg base CX0 (L + 1) a.Depths__rated_looks fd.Depths__rated_looks ["self", "box"] (spRate P w a N) := by
  have G_looks_in := ok_looks_in (P := P) (w := w) (base := base) T
  refine T.F_Depths__rated_looks.ok sc_Depths__rated_looks (fun vs H Q E h => ?_) (fun cdv A outer s H vs Q E hr h => ?_)
  · obtain ⟨p, dx, d, kn, v, lw, hg, n, c, rfl, _⟩ := h
    rfl
  · obtain ⟨p, dx, d, kn, v, lw, hg, n, c, rfl, O, B, X, lN, kk⟩ := h
    refine ⟨_, (pss_one (ps_ret (pe_lc (own := [("look", 2)]) (g := gName 2) (by rfl) sc_Depths__rated_looks.nd (pi_list (pe_call G_looks_in (hr.mono (by omega)) (by rfl) T.g_looks_in T.F_looks_in.kp T.b_looks_in .nil pass0 (pa_cons (pv 1) pa_nil))) (blkOk_by (own := [("look", 2)]) (N := ["self", "box", "look"]) (sc := defScope s_Depths__rated_looks) (by decide +kernel)) (fun _ _ _ _ _ => pg_name (i := 2) sc_Depths__rated_looks.nd rfl (Or.inl rfl)) (fun _ _ _ _ _ => pts_nil) (fun _ _ _ _ _ => (pe_tup (pa_cons (pe_meth (pv 0) T.cl T.m_Depths__left_behind G_Depths__left_behind (hr.mono (by omega)) T.b_Depths__left_behind .nil pass0 (pa_cons (pv 1) (pa_cons (pv 2) pa_nil))) (pa_cons (pv 2) pa_nil))))))), ?_⟩
    refine ⟨_, rfl, v, lw, hg, n, c, rfl, B, X.nn, fun i hi => ⟨(X.sm i hi).1, (X.sm i hi).2, X.tg.le i hi⟩, fun r ts H1 s1 nr hr1 hT => ?_⟩
    have O1 := O.same s1
    have ll : (lks lw hg n).length ≤ 21 := Nat.le_trans (lks_len X.sm) (by have := X.nn; omega)
    refine ⟨r, rfl, ⟨_, SqL.of hr1⟩, fun D nD => lc_list (K := K) (a := r) (xs := ts.map V.ref) (fun j H' => Keep [d] H1 H' ∧ ∃ (kn' : List KEnt) (us : List Addr) (rs : List T3), DepO P w a H' p dx d kn' ∧ H' D = some (.lst (us.map V.ref)) ∧ RH H' us rs ∧ Rated lw hg n c j rs) ⟨Keep.same (same_upd nD), kn, [], [], O1.same (same_upd nD), upd_same, RH.nil, Rated.nil⟩ (fun j H' _ ⟨k2, _⟩ => SqL.of (O1.lst k2 _ _ hr1)) ?_ ?_⟩
    · rintro j x H' hx ⟨k2, kn', us, rs, O2, hD, hR, hr2⟩
      obtain ⟨t, et, rfl⟩ : ∃ t, ts[j]? = some t ∧ x = V.ref t := by
        rw [List.getElem?_map] at hx
        obtain ⟨t, e1, e2⟩ := Option.map_eq_some_iff.mp hx
        exact ⟨t, e1, e2.symm⟩
      obtain ⟨y, ey, hy⟩ := hT.get et
      obtain ⟨k, m, hk, b1, b2, rfl⟩ := mem_lks.mp (List.mem_of_getElem? ey)
      have hy2 := O1.tup k2 _ _ hy
      refine ⟨rfl, ?_⟩
      dsimp only [tYes]
      rw [if_pos rfl]
      refine ⟨_, rfl, p, dx, _, rfl, O2.ob, kno (by decide +kernel), _, rfl, _, rfl, p, dx, d, t, kn', v, lw, hg, n, k, m, c, rfl, O2, (B.same s1).mono (O1.tup k2), X, lN, hy2, hk, b1, b2, fun e1 e2 H2 kn2 k3 O3 i1 i2 => ?_⟩
      have nd : D ∉ [d] := O1.nd nD
      have hD2 := k3 _ _ hD nd
      refine ⟨_, rfl, (by show 2 ≤ sizeLine; decide), fun q nq => ?_⟩
      have Dq : D ≠ q := fun z => by rw [← z, hD2] at nq; cases nq
      have Oq := O3.same (same_upd (o := .tup [V.int ((max e1 e2 : Nat) : Int), V.ref t]) nq)
      have lu : us.length ≤ 1000 := by
        have := hR.len
        have := hr2.1
        have := (List.getElem?_eq_some_iff.mp ey).1
        omega
      refine ⟨_, by rw [upd_ne Dq]; exact hD2, small1000 (by rw [List.length_map]; exact lu), fun c' u e nc => ?_, kn2, us ++ [q], rs ++ [(((max e1 e2 : Nat) : Int), ((k : Int), m))], ?_, ?_, ?_, hr2.snoc hk b1 b2 ey i1 i2⟩
      · have h3 := same_upd (o := .tup [V.int ((max e1 e2 : Nat) : Int), V.ref t]) nq _ _ (k3 _ _ (k2 _ _ e nc) nc)
        rw [upd_ne (fun z => by rw [z, nD] at e; cases e)]
        exact h3
      · have hDu := hD2
        refine ⟨?_, Oq.di.mono ?_ fun c' xs' e' => ?_, O3.kn⟩
        · rw [upd_ne (fun z => by have h := Oq.ob; rw [z, upd_ne Dq, hD2] at h; cases h)]
          exact Oq.ob
        · rw [upd_ne (fun z => nd (List.mem_singleton.mpr z.symm))]
          exact Oq.di.at_
        · rw [upd_ne (fun z => by rw [z, upd_ne Dq, hD2] at e'; cases e')]
          exact e'
      · rw [upd_same, List.map_append]
        rfl
      · refine RH.mono (RH.snoc ((hR.mono (O2.tup k3)).mono fun c' xs' e' => same_upd nq _ _ e') upd_same (same_upd nq _ _ (O2.tup k3 _ _ hy2))) fun c' xs' e' => ?_
        rw [upd_ne (fun z => by rw [z, upd_ne Dq, hD2] at e'; cases e')]
        exact e'
    · rintro H2 ⟨k2, kn', us, rs, O2, hD, hR, hr2⟩
      rw [List.length_map, hT.len] at hr2
      refine kk D us rs H2 kn' ((Keep.same s1).trans k2) O2 ?_ hD hR hr2
      by_cases q : H D = none
      · exact q
      · obtain ⟨u, e⟩ := Option.ne_none_iff_exists'.mp q
        rw [s1 _ _ e] at nD
        cases nD
end
end Nu
namespace Nu
open PySem PySem.Spec PyProof.Rows L2
theorem at_key {kn : List KEnt} {k : KKey} {y : NEnt} (q : ((kn.map entN).find? fun x => decide (x.1 = keyN k.1 k.2)) = some y) : k ∈ kn.map (·.1) := by
  have h1 := List.mem_of_find?_eq_some q
  have h2 := List.find?_some q
  have h2 : y.1 = keyN k.1 k.2 := of_decide_eq_true h2
  obtain ⟨e, he, rfl⟩ := List.mem_map.mp h1
  have h2 : keyN e.1.1 e.1.2 = keyN k.1 k.2 := h2
  have := keyN_inj h2
  exact List.mem_map.mpr ⟨e, he, Prod.ext this.1 this.2⟩
theorem put_old {kn : List KEnt} {k : KKey} {t : Addr} {D : Nat} {v : V} (h : atN (kn.map entN) (keyN k.1 k.2) = some v) (hv : ∀ e ∈ kn, e.1 = k → e.2.2 = D) : putN (kn.map entN) (keyN k.1 k.2) t (.int ((D : Nat) : Int)) = kn.map entN := by
  unfold putN
  rw [h]
  show List.map _ (kn.map entN) = kn.map entN
  rw [List.map_map]
  refine List.map_congr_left fun e he => ?_
  show (if (entN e).1 = keyN k.1 k.2 then ((entN e).1, (entN e).2.1, V.int ((D : Nat) : Int)) else entN e) = entN e
  split
  · rename_i q
    have q : keyN e.1.1 e.1.2 = keyN k.1 k.2 := q
    have := keyN_inj q
    have hd := hv e he (Prod.ext this.1 this.2)
    rw [← hd]
    rfl
  · rfl
section
variable {P : Program} {w : World} {K : PySem.W.Frag} {mg : Str → Option Value} {base : Heap} {a : Ad} {fd : Fd} {L N : Nat}
theorem ok_worked (T : Txt K mg a fd) (G_Depths__rated_looks : FnOk P w K mg base CX0 L a.Depths__rated_looks fd.Depths__rated_looks ["self", "box"] (spRate P w a N)) : FnOk P w K mg base CX0 (L + 1) a.Depths__worked_out fd.Depths__worked_out ["self", "box"] (spDep P w a (N + 1)) := by
  refine T.F_Depths__worked_out.ok sc_Depths__worked_out (fun vs H Q E h => ?_) (fun cdv A outer s H vs Q E hr h => ?_)
  · obtain ⟨p, dx, d, kn, v, lw, hg, n, c, rfl, _⟩ := h
    rfl
  · obtain ⟨p, dx, d, kn, v, lw, hg, n, c, rfl, O, B, X, lN, kk⟩ := h
    refine ⟨_, (pss_cons (ps_set (i := 2) sc_Depths__worked_out.nd rfl (Or.inl rfl) (pe_meth (pv 0) T.cl T.m_Depths__rated_looks G_Depths__rated_looks (hr.mono (by omega)) T.b_Depths__rated_looks .nil pass0 (pa_cons (pv 1) pa_nil)))
    (pss_cons (ps_if (pt_cmpR op_eq (pe_callB call_len_seq (by rfl) T.n_len PySem.boot_len (pa_cons (pv 2) pa_nil)) pe_int (nomark _)) (pss_one (ps_ret pe_int)) pss_nil)
    (pss_cons (ps_asg (pe_callB (cr_minT hr.units rfl) (by rfl) T.n_min (by decide +kernel) (pa_cons (pv 2) pa_nil)) (pg_tup (by rfl) (pgs_cons (pg_name (i := 3) sc_Depths__worked_out.nd rfl (Or.inl rfl)) (pgs_cons (pg_name (i := 4) sc_Depths__worked_out.nd rfl (Or.inl rfl)) pgs_nil))))
    (pss_one (ps_ret (pe_op op_add pe_int (pv 3))))))), ?_⟩
    refine ⟨_, rfl, p, dx, _, rfl, O.ob, kno (by decide +kernel), _, rfl, p, dx, d, kn, v, lw, hg, n, c, rfl, O, B, X, by omega, fun r ts rs H1 kn1 k1 O1 nr hr1 hR hr2 => ?_⟩
    refine gName_go ?_
    try refine next_go ?_
    try refine seq_go ?_
    refine ⟨_, rfl, r, _, rfl, .inl (SqL.of hr1), rfl, _, rfl, ?_⟩
    have lt : ts.length = rs.length := hR.len
    rw [List.length_map]
    by_cases c0 : ts.length = 0
    · rw [decide_eq_true (show V.int ((ts.length : Nat) : Int) = V.int 0 by rw [c0]; rfl)]
      refine iteT ?_
      have := kk 0 H1 kn1 k1 O1 (X.flat (List.eq_nil_of_length_eq_zero (by have := hr2.1; omega)))
      exact this
    · rw [decide_eq_false (show ¬ V.int ((ts.length : Nat) : Int) = V.int 0 from fun z => by injection z; omega)]
      refine iteF ?_
      try refine next_go ?_
      try refine seq_go ?_
      refine ⟨_, rfl, r, ts, rs, rfl, hr1, hR, fun z => by rw [z] at lt; exact c0 lt, fun i t x et ex mn => ?_⟩
      obtain ⟨k, m, ey, en, hk, h1, h2, rfl, hy, hn, hD⟩ := hr2.best X ex mn
      obtain ⟨l, ht, hl⟩ := hR.at_ i t _ et ex
      refine ⟨t, _, rfl, SqT.of ht, rfl, _, _, rfl, _, _, rfl, rfl, ?_⟩
      try refine next_go ?_
      try refine seq_go ?_
      have := kk (max ey en + 1) H1 kn1 k1 O1 hD
      rw [show ((max ey en + 1 : Nat) : Int) = 1 + ((max ey en : Nat) : Int) by omega] at this
      exact ⟨_, rfl, _, _, rfl, rfl, this⟩
theorem ok_depth (T : Txt K mg a fd) (hL : 1 ≤ L) (G_Depths__worked_out : FnOk P w K mg base CX0 L a.Depths__worked_out fd.Depths__worked_out ["self", "box"] (spDep P w a N)) : FnOk P w K mg base CX0 (L + 1) a.Depths_depth_of fd.Depths_depth_of ["self", "box"] (spDep P w a N) := by
  have G_shape := ok_shape (P := P) (w := w) (base := base) T
  refine T.F_Depths_depth_of.ok sc_Depths_depth_of (fun vs H Q E h => ?_) (fun cdv A outer s H vs Q E hr h => ?_)
  · obtain ⟨p, dx, d, kn, v, lw, hg, n, c, rfl, _⟩ := h
    rfl
  · obtain ⟨p, dx, d, kn, v, lw, hg, n, c, rfl, O, B, X, lN, kk⟩ := h
    refine ⟨_, (pss_cons (ps_set (i := 2) sc_Depths_depth_of.nd rfl (Or.inl rfl) (pe_call G_shape (hr.mono (by omega)) (by rfl) T.g_shape T.F_shape.kp T.b_shape .nil pass0 (pa_cons (pv 1) pa_nil)))
    (pss_cons (ps_if (pt_cmp (pc_nnotin hr.units (pv 2) (pe_fld (pv 0) rfl))) (pss_one (ps_dputN hr.units (pe_fld (pv 0) rfl) (pv 2) (pe_meth (pv 0) T.cl T.m_Depths__worked_out G_Depths__worked_out (hr.mono (by omega)) T.b_Depths__worked_out .nil pass0 (pa_cons (pv 1) pa_nil)) rfl)) pss_nil)
    (pss_one (ps_ret (pe_dgetN hr.units (pe_fld (pv 0) rfl) (pv 2) (fun _ _ => rfl)))))), ?_⟩
    refine ⟨_, rfl, v, lw, hg, n, c, rfl, B, X.nn, fun t ws H1 s1 ht hp hs => ?_⟩
    have O1 := O.same s1
    have kk : ∀ (D : Nat) H' kn', Keep [d] H1 H' → DepO P w a H' p dx d kn' → IsD n (Wd lw hg n c) D → Q (.int ((D : Nat) : Int)) H' := fun D H' kn' k O' i => kk D H' kn' ((Keep.same s1).trans k) O' i
    have KO : KeyOf lw hg n c (ws, relC lw n c) := ⟨hp, hs, rfl⟩
    refine gName_go ?_
    dsimp only
    refine seq_go ?_
    refine ifS_join (fun σ' H' => σ' = [some (.ref p), some v, some (.ref t)] ∧ ∃ kn', Keep [d] H1 H' ∧ DepO P w a H' p dx d kn' ∧ (ws, relC lw n c) ∈ kn'.map (·.1)) (fun nx hnx => ?_) ?_
    · refine ⟨_, rfl, _, rfl, p, a.C, dx, _, _, rfl, O1.ob, T.cl, T.na_known, kyes, ?_⟩
      refine ⟨d, t, _, keyN ws (relC lw n c), rfl, rfl, O1.di, ht, keyN_depth _ _, ?_⟩
      cases e : atN (kn.map entN) (keyN ws (relC lw n c)) with
      | some y =>
        refine ⟨false, rfl, iteF ?_⟩
        refine hnx _ _ ⟨rfl, kn, Keep.refl _ _, O1, ?_⟩
        unfold atN at e
        obtain ⟨y', hy', _⟩ := Option.map_eq_some_iff.mp e
        exact at_key hy'
      | none =>
        refine ⟨true, rfl, iteT ?_⟩
        refine ⟨_, rfl, p, dx, _, rfl, O1.ob, kno (by decide +kernel), _, rfl, p, dx, d, kn, v, lw, hg, n, c, rfl, O1, B.same s1, X, lN, fun D H2 kn2 k2 O2 iD => ?_⟩
        refine ⟨_, rfl, p, a.C, dx, _, _, rfl, O2.ob, T.cl, T.na_known, kyes, ?_⟩
        have ht2 := ht.mono (O1.tup k2)
        refine ⟨_, rfl, d, t, _, keyN ws (relC lw n c), rfl, rfl, O2.di, ht2, keyN_depth _ _, ?_⟩
        refine hnx _ _ ⟨rfl, ?_⟩
        have ku : Keep [d] H2 (upd H2 d (DicO P w d (putN (kn2.map entN) (keyN ws (relC lw n c)) t (.int ((D : Nat) : Int))))) := keep_upd (.inl List.mem_cons_self)
        by_cases q : (ws, relC lw n c) ∈ kn2.map (·.1)
        · obtain ⟨e, he, ek, ea⟩ := at_some q
          have hv : ∀ e ∈ kn2, e.1 = (ws, relC lw n c) → e.2.2 = D := fun e he ek => (O2.kn.get he (by rw [ek]; exact KO)).uniq iD
          rw [put_old ea hv] at ku ⊢
          have eH : upd H2 d (DicO P w d (kn2.map entN)) = H2 := funext fun x => by
            by_cases z : x = d
            · rw [z, upd_same, O2.di.at_]
            · rw [upd_ne z]
          show ∃ kn', Keep [d] H1 (upd H2 d (DicO P w d (kn2.map entN))) ∧ DepO P w a (upd H2 d (DicO P w d (kn2.map entN))) p dx d kn' ∧ (ws, relC lw n c) ∈ kn'.map (·.1)
          rw [eH]
          exact ⟨kn2, k2, O2, q⟩
        · have nn : atN (kn2.map entN) (keyN ws (relC lw n c)) = none := by
            cases q2 : (kn2.map entN).find? fun x => decide (x.1 = keyN ws (relC lw n c)) with
            | none =>
              unfold atN
              rw [q2]
              rfl
            | some y =>
              exact absurd (at_key q2) q
          exact ⟨_, k2.trans ku, O2.put (k := (ws, relC lw n c)) X KO iD nn ht2, by
            rw [List.map_append]
            exact List.mem_append.mpr (.inr List.mem_cons_self)⟩
    · rintro σ' H' ⟨rfl, kn', k', O', hm⟩
      have ht' := ht.mono (O1.tup k')
      obtain ⟨e, he, ek, ea⟩ := at_some hm
      refine ⟨_, rfl, p, a.C, dx, _, _, rfl, O'.ob, T.cl, T.na_known, kyes, ?_⟩
      refine ⟨_, rfl, d, t, _, keyN ws (relC lw n c), _, rfl, rfl, O'.di, ht', keyN_depth _ _, ea, ?_⟩
      exact kk _ _ _ k' O' (O'.kn.get he (by rw [ek]; exact KO))
theorem ok_depth_of (T : Txt K mg a fd) : ∀ N : Nat, FnOk P w K mg base CX0 (4 * N + 5) a.Depths_depth_of fd.Depths_depth_of ["self", "box"] (spDep P w a N)
  | 0 => by
    refine T.F_Depths_depth_of.ok sc_Depths_depth_of (fun vs H Q E h => ?_) (fun cdv A outer s H vs Q E hr h => ?_)
    · obtain ⟨p, dx, d, kn, v, lw, hg, n, c, rfl, _⟩ := h
      rfl
    · obtain ⟨p, dx, d, kn, v, lw, hg, n, c, rfl, O, B, X, lN, kk⟩ := h
      have := X.wid_nn
      omega
  | N + 1 => by
    have h1 := ok_left T (by omega) (ok_depth_of T N)
    have h2 := ok_rated T (by omega) h1
    have h3 := ok_worked T h2
    have h4 := ok_depth T (by omega) h3
    exact h4
end
end Nu
namespace Nu
open PySem PySem.Spec PyProof.Rows L2
inductive Pl where
  | leaf
  | node (k m : Int) (y n : Pl)
def PlH (H : Hp) : V → Pl → Prop
  | v, .leaf => ∃ p, v = .ref p ∧ H p = some (.tup [])
  | v, .node k m y n => ∃ p vy vn, v = .ref p ∧ H p = some (.tup [.int k, .int m, vy, vn]) ∧ PlH H vy y ∧ PlH H vn n
theorem PlH.mono {H H' : Hp} (s : ∀ c xs, H c = some (.tup xs) → H' c = some (.tup xs)) : ∀ (pl : Pl) (v : V), PlH H v pl → PlH H' v pl
  | .leaf, v, ⟨p, e, h⟩ => ⟨p, e, s _ _ h⟩
  | .node k m y n, v, ⟨p, vy, vn, e, h, hy, hn⟩ => ⟨p, vy, vn, e, s _ _ h, PlH.mono s y vy hy, PlH.mono s n vn hn⟩
theorem PlH.same {H H' : Hp} {pl : Pl} {v : V} (h : PlH H v pl) (s : Same H H') : PlH H' v pl := PlH.mono (fun c xs e => s c _ e) pl v h
def Pl.data : Pl → PyData
  | .leaf => .tuple []
  | .node k m y n => .tuple [.int k, .int m, y.data, n.data]
def Pl.deep : Pl → Nat
  | .leaf => 0
  | .node _ _ y n => 1 + max y.deep n.deep
def Pl.size : Pl → Nat
  | .leaf => 0
  | .node _ _ y n => 1 + y.size + n.size
def Pl.fits (w : Nat) : Pl → Prop
  | .leaf => True
  | .node k _ y n => 0 ≤ k ∧ k < (w : Int) ∧ y.fits w ∧ n.fits w
def Pl.walk (w : List Int) : Pl → List (Int × Int × Bool)
  | .leaf => []
  | .node k m y n => (k, m, decide (m ≤ w.getD k.toNat 0)) :: (if m ≤ w.getD k.toNat 0 then y.walk w else n.walk w)
theorem Pl.walk_node (w : List Int) (k m : Int) (y n : Pl) : (Pl.node k m y n).walk w = (k, m, decide (m ≤ w.getD k.toNat 0)) :: (if m ≤ w.getD k.toNat 0 then y.walk w else n.walk w) := rfl
theorem Pl.walk_len (w : List Int) : ∀ pl : Pl, (pl.walk w).length ≤ pl.deep
  | .leaf => Nat.le_refl _
  | .node k m y n => by
    have h1 := Pl.walk_len w y
    have h2 := Pl.walk_len w n
    unfold Pl.walk Pl.deep
    by_cases c : m ≤ w.getD k.toNat 0
    · rw [if_pos c, List.length_cons]
      omega
    · rw [if_neg c, List.length_cons]
      omega
theorem Pl.dp {K : PySem.W.Frag} {H : Hp} : ∀ (pl : Pl) (v : V), PlH H v pl → Dp K H v pl.data
  | .leaf, v, ⟨p, e, h⟩ => e ▸ .tup (SqT.of h) .nil
  | .node k m y n, v, ⟨p, vy, vn, e, h, hy, hn⟩ => e ▸ .tup (SqT.of h) (.cons (.int k) (.cons (.int m) (.cons (Pl.dp y vy hy) (.cons (Pl.dp n vn hn) .nil))))
theorem Pl.lay : ∀ pl : Pl, pl.data.canLay0 = true
  | .leaf => by
    unfold Pl.data
    simp only [PyData.canLay0, PyData.canLayAll0]
  | .node k m y n => by
    unfold Pl.data
    simp only [PyData.canLay0, PyData.canLayAll0, Pl.lay y, Pl.lay n, Bool.and_true]
theorem Pl.depth : ∀ pl : Pl, pl.data.depth ≤ pl.deep + 1
  | .leaf => by
    unfold Pl.data
    simp only [PyData.depth, PyData.depthAll, Pl.deep]
    omega
  | .node k m y n => by
    have h1 := Pl.depth y
    have h2 := Pl.depth n
    unfold Pl.data
    simp only [PyData.depth, PyData.depthAll, Pl.deep]
    omega
theorem Pl.shaped {pl : Pl} (h : pl.deep ≤ 60) : SeqAt.shaped pl.data = true := by
  unfold SeqAt.shaped
  rw [pl.lay, Bool.true_and]
  have := pl.depth
  exact decide_eq_true (by omega)
def Pl.isLeaf : Pl → Bool
  | .leaf => true
  | _ => false
theorem Pl.eqv : ∀ pl : Pl, PyData.eqv pl.data (.tuple []) = pl.isLeaf
  | .leaf => by
    unfold Pl.data
    simp only [PyData.eqv, PyData.eqvAll, Pl.isLeaf]
  | .node k m y n => by
    unfold Pl.data
    simp only [PyData.eqv, PyData.eqvAll, Pl.isLeaf]
/-- the rows told -/
structure AskH (H : Hp) (ts : List Addr) (as : List (Int × Int × Bool)) : Prop where
  len : ts.length = as.length
  at_ : ∀ (i : Nat) (t : Addr) (x : Int × Int × Bool), ts[i]? = some t → as[i]? = some x → H t = some (.tup [.int x.1, .int x.2.1, .bl x.2.2])
theorem AskH.mono {H H' : Hp} {ts : List Addr} {as : List (Int × Int × Bool)} (h : AskH H ts as) (s : ∀ c xs, H c = some (.tup xs) → H' c = some (.tup xs)) : AskH H' ts as := ⟨h.len, fun i t x a b => s _ _ (h.at_ i t x a b)⟩
theorem AskH.nil {H : Hp} : AskH H [] [] := ⟨rfl, fun i t x e => by simp at e⟩
theorem AskH.snoc {H : Hp} {ts : List Addr} {as : List (Int × Int × Bool)} {t : Addr} {x : Int × Int × Bool} (h : AskH H ts as) (e : H t = some (.tup [.int x.1, .int x.2.1, .bl x.2.2])) : AskH H (ts ++ [t]) (as ++ [x]) := by
  refine ⟨by rw [List.length_append, List.length_append, h.len]; rfl, fun i t' x' a b => ?_⟩
  have l := h.len
  by_cases c : i < ts.length
  · rw [List.getElem?_append_left c] at a
    rw [List.getElem?_append_left (by omega)] at b
    exact h.at_ i t' x' a b
  · rw [List.getElem?_append_right (by omega)] at a
    rw [List.getElem?_append_right (by omega)] at b
    have z : i = ts.length := by
      by_cases z : i - ts.length = 0
      · omega
      · rw [List.getElem?_eq_none (by simp; omega)] at a
        cases a
    subst z
    rw [l, Nat.sub_self] at b
    rw [Nat.sub_self] at a
    cases a
    cases b
    exact e
theorem AskH.cons {H : Hp} {ts : List Addr} {as : List (Int × Int × Bool)} {t : Addr} {x : Int × Int × Bool} (h : AskH H ts as) (e : H t = some (.tup [.int x.1, .int x.2.1, .bl x.2.2])) : AskH H (t :: ts) (x :: as) := by
  refine ⟨by rw [List.length_cons, List.length_cons, h.len], fun i t' x' a b => ?_⟩
  cases i with
  | zero =>
    cases a
    cases b
    exact e
  | succ i => exact h.at_ i t' x' a b
theorem while_m {c : TT} {tb : TS} {D : Ends} {σ : L2.St} {H : Hp} (W : Nat → L2.St → Hp → Prop) (m0 : Nat) (h0 : W m0 σ H)
    (hs : ∀ m σ H, W m σ H → c σ H fun b H1 => if b = true then tb { D with nx := fun σ' H' => ∃ m', m' < m ∧ W m' σ' H', ct := fun σ' H' => ∃ m', m' < m ∧ W m' σ' H', bk := D.nx } σ H1 else D.nx σ H1)
    (mono : ∀ σ H Q Q', (∀ b H1, Q b H1 → Q' b H1) → c σ H Q → c σ H Q') : tWhile c tb D σ H := by
  refine ⟨W, ⟨m0, h0⟩, fun m σ H w => mono σ H _ _ (fun b H1 q => ?_) (hs m σ H w)⟩
  cases b with
  | true => exact ⟨_, fun σ' H' h => h, q⟩
  | false => exact q
end Nu
namespace Nu
open PySem PySem.Spec PyProof.Rows L2
/-! ### plans that settle -/
def Sol (n : Nat) : Pl → WS → Prop
  | .leaf, S => Single n S
  | .node k m y z, S => ∃ i : Nat, k = (i : Int) ∧ i < n ∧ (∃ f, S f ∧ m ≤ f i) ∧ (∃ f, S f ∧ f i < m) ∧ Sol n y (fun f => S f ∧ m ≤ f i) ∧ Sol n z (fun f => S f ∧ f i < m)
theorem Sol.can {n : Nat} : ∀ {pl : Pl} {S : WS}, Sol n pl S → CanW n pl.deep S
  | .leaf, _, h => h
  | .node k m y z, S, ⟨i, _, hi, h1, h2, h3, h4⟩ => by
    have e : (Pl.node k m y z).deep = max y.deep z.deep + 1 := by
      show 1 + max y.deep z.deep = _
      omega
    rw [e]
    exact .inr ⟨i, m, hi, h1, h2, (Sol.can h3).mono (by omega), (Sol.can h4).mono (by omega)⟩
def spDInit (P : Program) (w : World) (a : Ad) : Sp := fun vs H Q _ => ∃ (p dx : Addr), vs = [.ref p] ∧ H p = some (.ins a.C dx []) ∧ ∀ d H', H d = none → Keep [p] H H' → DepO P w a H' p dx d [] → Q .non H'
def spBest (P : Program) (w : World) (a : Ad) (N : Nat) : Sp := fun vs H Q _ => ∃ (p dx d : Addr) (kn : List KEnt) (v : V) (lw hg : Nat → Int) (n : Nat) (c : Option Int), vs = [.ref p, v] ∧ DepO P w a H p dx d kn ∧ BoxH H v lw hg n n c ∧ Bx lw hg n c ∧ sumF (wid lw hg) n ≤ (N : Int) ∧ lks lw hg n ≠ [] ∧
  ∀ (l : Addr) H' kn' (k : Nat) (m : Int) (ey en : Nat), Keep [d] H H' → DepO P w a H' p dx d kn' → H' l = some (.tup [.int (k : Int), .int m]) → k < n → lw k + 1 ≤ m → m ≤ hg k → IsD n (YesW lw hg n c k m) ey → IsD n (NoW lw hg n c k m) en → IsD n (Wd lw hg n c) (max ey en + 1) → Q (.ref l) H'
def spPlan (P : Program) (w : World) (a : Ad) (N : Nat) : Sp := fun vs H Q _ => ∃ (p dx d : Addr) (kn : List KEnt) (v : V) (lw hg : Nat → Int) (n : Nat) (c : Option Int), vs = [v, .ref p] ∧ DepO P w a H p dx d kn ∧ BoxH H v lw hg n n c ∧ Bx lw hg n c ∧ sumF (wid lw hg) n < (N : Int) ∧
  ∀ (pl : Pl) (x : V) H' kn', Keep [d] H H' → DepO P w a H' p dx d kn' → PlH H' x pl → Sol n pl (Wd lw hg n c) → IsD n (Wd lw hg n c) pl.deep → Q x H'
def spLeast (P : Program) (w : World) (a : Ad) : Sp := fun vs H Q _ => ∃ (v : V) (lw hg : Nat → Int) (n : Nat) (c : Option Int), vs = [v] ∧ BoxH H v lw hg n n c ∧ BOk lw hg n n c ∧ isB lw hg n n ∧ ¬ badC (sumF lw n) (sumF hg n) c ∧
  ∀ (r : Addr) (pl : Pl) (x : V) H', Same H H' → H' r = some (.tup [.int ((pl.deep : Nat) : Int), x]) → PlH H' x pl → Sol n pl (Wd lw hg n c) → IsD n (Wd lw hg n c) pl.deep → Q (.ref r) H'
theorem PlH.keep {H H' : Hp} {pl : Pl} {v : V} (h : PlH H v pl) (s : ∀ c xs, H c = some (.tup xs) → H' c = some (.tup xs)) : PlH H' v pl := PlH.mono s pl v h
section
variable {P : Program} {w : World} {K : PySem.W.Frag} {mg : Str → Option Value} {base : Heap} {a : Ad} {fd : Fd} {L N : Nat}
theorem ok_Depths_init (T : Txt K mg a fd) : FnOk P w K mg base CX0 1 a.Depths_init fd.Depths_init ["self"] (spDInit P w a) := by
  refine T.F_Depths_init.ok sc_Depths_init (fun vs H Q E h => ?_) (fun cdv A outer s H vs Q E hr h => ?_)
  · obtain ⟨p, dx, rfl, _⟩ := h
    rfl
  · obtain ⟨p, dx, rfl, hp, kk⟩ := h
    refine ⟨_, (pss_one (ps_fld (pv 0) pe_dnewN rfl)), ?_⟩
    intro d nd
    have pd : p ≠ d := fun z => by rw [← z, hp] at nd; cases nd
    refine ⟨_, rfl, p, a.C, dx, _, rfl, by rw [upd_ne pd]; exact hp, T.cl, T.na_known, by show 0 < 1000; decide, ?_⟩
    refine kk d _ nd (fun c u e nc => ?_) ⟨upd_same, ⟨by rw [upd_ne (Ne.symm pd)]; exact upd_same, fun x hx => (by cases hx), Nat.zero_le _⟩, KnOk.nil⟩
    rw [upd_ne (fun z => nc (List.mem_singleton.mpr z)), upd_ne (fun z => by rw [z, nd] at e; cases e)]
    exact e
theorem ok_best (T : Txt K mg a fd) (G_Depths__rated_looks : FnOk P w K mg base CX0 L a.Depths__rated_looks fd.Depths__rated_looks ["self", "box"] (spRate P w a N)) : FnOk P w K mg base CX0 (L + 1) a.Depths_best_look fd.Depths_best_look ["self", "box"] (spBest P w a N) := by
  refine T.F_Depths_best_look.ok sc_Depths_best_look (fun vs H Q E h => ?_) (fun cdv A outer s H vs Q E hr h => ?_)
  · obtain ⟨p, dx, d, kn, v, lw, hg, n, c, rfl, _⟩ := h
    rfl
  · obtain ⟨p, dx, d, kn, v, lw, hg, n, c, rfl, O, B, X, lN, hne, kk⟩ := h
    refine ⟨_, (pss_cons (ps_asg (pe_callB (cr_minT hr.units rfl) (by rfl) T.n_min (by decide +kernel) (pa_cons (pe_meth (pv 0) T.cl T.m_Depths__rated_looks G_Depths__rated_looks (hr.mono (by omega)) T.b_Depths__rated_looks .nil pass0 (pa_cons (pv 1) pa_nil)) pa_nil)) (pg_tup (by rfl) (pgs_cons (pg_name (i := 2) sc_Depths_best_look.nd rfl (Or.inl rfl)) (pgs_cons (pg_name (i := 3) sc_Depths_best_look.nd rfl (Or.inl rfl)) pgs_nil))))
    (pss_one (ps_ret (pv 3)))), ?_⟩
    refine ⟨_, rfl, p, dx, _, rfl, O.ob, kno (by decide +kernel), _, rfl, p, dx, d, kn, v, lw, hg, n, c, rfl, O, B, X, by omega, fun r ts rs H1 kn1 k1 O1 nr hr1 hR hr2 => ?_⟩
    refine ⟨r, ts, rs, rfl, hr1, hR, fun z => hne (List.eq_nil_of_length_eq_zero (by have := hr2.1; rw [z] at this; exact this.symm)), fun i t x et ex mn => ?_⟩
    obtain ⟨k, m, ey, en, hk, h1, h2, rfl, hy, hn, hD⟩ := hr2.best X ex mn
    obtain ⟨l, ht, hl⟩ := hR.at_ i t _ et ex
    refine ⟨t, _, rfl, SqT.of ht, rfl, _, _, rfl, _, _, rfl, rfl, ?_⟩
    try refine next_go ?_
    try refine seq_go ?_
    exact ⟨_, rfl, kk l H1 kn1 k m ey en k1 O1 hl hk h1 h2 hy hn hD⟩
theorem ok_plan1 (T : Txt K mg a fd) (hL : 94 ≤ L) (G_plan : FnOk P w K mg base CX0 L a.plan fd.plan ["box", "depths"] (spPlan P w a N)) (hN : N ≤ 21) : FnOk P w K mg base CX0 (L + 1) a.plan fd.plan ["box", "depths"] (spPlan P w a (N + 1)) := by
  have G_Depths_depth_of := (ok_depth_of (P := P) (w := w) (base := base) T 22)
  have G_Depths_best_look := ok_best T (ok_rated T (by omega) (ok_left T (by omega) (ok_depth_of (P := P) (w := w) (base := base) T 21)))
  have G_parted := ok_parted (P := P) (w := w) (base := base) T
  refine T.F_plan.ok sc_plan (fun vs H Q E h => ?_) (fun cdv A outer s H vs Q E hr h => ?_)
  · obtain ⟨p, dx, d, kn, v, lw, hg, n, c, rfl, _⟩ := h
    rfl
  · obtain ⟨p, dx, d, kn, v, lw, hg, n, c, rfl, O, B, X, lN, kk⟩ := h
    refine ⟨_, (pss_cons (ps_if (pt_cmpR op_eq (pe_meth (pv 1) T.cl T.m_Depths_depth_of G_Depths_depth_of (hr.mono (by omega)) T.b_Depths_depth_of .nil pass0 (pa_cons (pv 0) pa_nil)) pe_int (nomark _)) (pss_one (ps_ret (pe_tup pa_nil))) pss_nil)
    (pss_cons (ps_set (i := 2) sc_plan.nd rfl (Or.inl rfl) (pe_meth (pv 1) T.cl T.m_Depths_best_look G_Depths_best_look (hr.mono (by omega)) T.b_Depths_best_look .nil pass0 (pa_cons (pv 0) pa_nil)))
    (pss_cons (ps_asg (pv 2) (pg_tup (by rfl) (pgs_cons (pg_name (i := 3) sc_plan.nd rfl (Or.inl rfl)) (pgs_cons (pg_name (i := 4) sc_plan.nd rfl (Or.inl rfl)) pgs_nil))))
    (pss_cons (ps_asg (pe_call G_parted (hr.mono (by omega)) (by rfl) T.g_parted T.F_parted.kp T.b_parted .nil pass0 (pa_cons (pv 0) (pa_cons (pv 2) pa_nil))) (pg_tup (by rfl) (pgs_cons (pg_name (i := 5) sc_plan.nd rfl (Or.inl rfl)) (pgs_cons (pg_name (i := 6) sc_plan.nd rfl (Or.inl rfl)) pgs_nil))))
    (pss_one (ps_ret (pe_tup (pa_cons (pv 3) (pa_cons (pv 4) (pa_cons (pe_call G_plan hr (by rfl) T.g_plan T.F_plan.kp T.b_plan .nil pass0 (pa_cons (pv 5) (pa_cons (pv 1) pa_nil))) (pa_cons (pe_call G_plan hr (by rfl) T.g_plan T.F_plan.kp T.b_plan .nil pass0 (pa_cons (pv 6) (pa_cons (pv 1) pa_nil))) pa_nil))))))))))), ?_⟩
    refine ⟨_, rfl, p, dx, _, rfl, O.ob, kno (by decide +kernel), _, rfl, p, dx, d, kn, v, lw, hg, n, c, rfl, O, B, X, by omega, fun D H1 kn1 k1 O1 iD => ?_⟩
    have B1 := B.mono (O.tup k1)
    have kk1 : ∀ (pl : Pl) (x : V) H' kn', Keep [d] H1 H' → DepO P w a H' p dx d kn' → PlH H' x pl → Sol n pl (Wd lw hg n c) → IsD n (Wd lw hg n c) pl.deep → Q x H' := fun pl x H' kn' k => kk pl x H' kn' (k1.trans k)
    refine ⟨rfl, _, rfl, ?_⟩
    by_cases c0 : D = 0
    · subst c0
      rw [decide_eq_true (show V.int (((0 : Nat) : Nat) : Int) = V.int 0 from rfl)]
      refine iteT ?_
      refine ⟨(by show 0 ≤ sizeLine; decide), fun q nq => ?_⟩
      exact kk1 .leaf _ _ kn1 (Keep.same (same_upd nq)) (O1.same (same_upd nq)) ⟨q, rfl, upd_same⟩ iD.1 iD
    · rw [decide_eq_false (show ¬ V.int ((D : Nat) : Int) = V.int 0 from fun z => by injection z; omega)]
      refine iteF ?_
      try refine next_go ?_
      try refine seq_go ?_
      refine ⟨_, rfl, p, dx, _, rfl, O1.ob, kno (by decide +kernel), _, rfl, p, dx, d, kn1, v, lw, hg, n, c, rfl, O1, B1, X, by omega, fun z => c0 (iD.uniq (X.flat z)), fun l H2 kn2 k m ey en k2 O2 hl hk h1 h2 hy hn hD => ?_⟩
      have B2 := B1.mono (O1.tup k2)
      refine gName_go ?_
      dsimp only
      refine seq_go ?_
      refine ⟨_, rfl, l, _, rfl, SqT.of hl, rfl, _, _, rfl, _, _, rfl, rfl, ?_⟩
      refine next_go ?_
      try refine seq_go ?_
      have y := X.yes hk (show lw k < m by omega) h2
      have z := X.no hk (show lw k < m by omega) h2
      have ty := X.tg.yes hk (show lw k < m by omega) h2
      have tn := X.tg.no hk (show lw k < m by omega) h2
      refine ⟨_, rfl, _, rfl, v, l, lw, hg, n, k, m, c, rfl, B2, hl, X.nn, hk, X.oc, ty.2, tn.2, fun pp vy vn H3 s3 hp By Bn => ?_⟩
      refine ⟨pp, _, rfl, SqT.of hp, rfl, _, _, rfl, _, _, rfl, rfl, ?_⟩
      refine next_go ?_
      have O3 := O2.same s3
      refine ⟨_, rfl, _, rfl, _, rfl, _, rfl, p, dx, d, kn2, vy, _, _, n, c, rfl, O3, By, y.1, by omega, fun ply xy H4 kn4 k4 O4 hpy sy iy => ?_⟩
      refine ⟨_, rfl, _, rfl, p, dx, d, kn4, vn, _, _, n, c, rfl, O4, Bn.mono (O3.tup k4), z.1, by omega, fun pln xn H5 kn5 k5 O5 hpn sn i5 => ?_⟩
      rw [y.2.2] at sy iy
      rw [z.2.2] at sn i5
      refine ⟨(by show 4 ≤ sizeLine; decide), fun q nq => ?_⟩
      have e1 := iy.uniq hy
      have e2 := i5.uniq hn
      have ex : ∀ z, lw k ≤ z → z ≤ hg k → ∃ f, Wd lw hg n c f ∧ f k = z := fun z a b => (X.tg.at_ hk z).mpr ⟨a, b⟩
      obtain ⟨f, hf, ef⟩ := ex m (by omega) h2
      obtain ⟨g, hg', eg⟩ := ex (m - 1) (by omega) (by omega)
      refine kk1 (.node (k : Int) m ply pln) _ _ kn5 ((((k2.trans (Keep.same s3)).trans k4).trans k5).trans (Keep.same (same_upd nq))) (O5.same (same_upd nq)) ⟨q, xy, xn, rfl, upd_same, (hpy.keep (O4.tup k5)).same (same_upd nq), hpn.same (same_upd nq)⟩ ⟨k, rfl, hk, ⟨f, hf, by omega⟩, ⟨g, hg', by omega⟩, sy, sn⟩ ?_
      have ed : (Pl.node (k : Int) m ply pln).deep = max ey en + 1 := by
        show 1 + max ply.deep pln.deep = _
        omega
      rw [ed]
      exact hD
theorem ok_plan (T : Txt K mg a fd) : ∀ N : Nat, N ≤ 22 → FnOk P w K mg base CX0 (95 + N) a.plan fd.plan ["box", "depths"] (spPlan P w a N)
  | 0, _ => by
    refine T.F_plan.ok sc_plan (fun vs H Q E h => ?_) (fun cdv A outer s H vs Q E hr h => ?_)
    · obtain ⟨p, dx, d, kn, v, lw, hg, n, c, rfl, _⟩ := h
      rfl
    · obtain ⟨p, dx, d, kn, v, lw, hg, n, c, rfl, O, B, X, lN, kk⟩ := h
      have := X.wid_nn
      omega
  | N + 1, hN => ok_plan1 T (show 94 ≤ 95 + N by omega) (ok_plan T N (by omega)) (by omega)
theorem ok_least (T : Txt K mg a fd) : FnOk P w K mg base CX0 118 a.least fd.least ["box"] (spLeast P w a) := by
  have G_tight := ok_tight (P := P) (w := w) (base := base) T
  have G_Depths_init := ok_Depths_init (P := P) (w := w) (base := base) T
  have G_Depths_depth_of := (ok_depth_of (P := P) (w := w) (base := base) T 22)
  have G_plan := ok_plan (P := P) (w := w) (base := base) T 22 (Nat.le_refl _)
  refine T.F_least.ok sc_least (fun vs H Q E h => ?_) (fun cdv A outer s H vs Q E hr h => ?_)
  · obtain ⟨v, lw, hg, n, c, rfl, _⟩ := h
    rfl
  · obtain ⟨v, lw, hg, n, c, rfl, B, ok, ib, nb, kk⟩ := h
    refine ⟨_, (pss_cons (ps_set (i := 1) sc_least.nd rfl (Or.inl rfl) (pe_call G_tight (hr.mono (by omega)) (by rfl) T.g_tight T.F_tight.kp T.b_tight .nil passL (pa_cons (pv 0) pa_nil)))
    (pss_cons (ps_set (i := 2) sc_least.nd rfl (Or.inl rfl) (pe_make0 T.mkO G_Depths_init (hr.mono (by omega)) (by rfl) T.g_Depths T.b_Depths_init .nil pass0))
    (pss_one (ps_ret (pe_tup (pa_cons (pe_meth (pv 2) T.cl T.m_Depths_depth_of G_Depths_depth_of (hr.mono (by omega)) T.b_Depths_depth_of .nil pass0 (pa_cons (pv 1) pa_nil)) (pa_cons (pe_call G_plan (hr.mono (by omega)) (by rfl) T.g_plan T.F_plan.kp T.b_plan .nil pass0 (pa_cons (pv 1) (pa_cons (pv 2) pa_nil))) pa_nil))))))), ?_⟩
    refine ⟨_, rfl, v, lw, hg, n, n, c, rfl, B, ok, fun z => absurd ib z, fun _ z => absurd z nb, fun _ _ v1 H1 s1 B1 => ?_⟩
    have le : ∀ i, i < n → lw i ≤ hg i := fun i hi => (ib.2.2.2 i hi).2.1
    have X : Bx (tlF lw hg n c) (thF lw hg n c) n c := ⟨ib.2.2.1, fun i hi => by
      have := ib.2.2.2 i hi
      have := tl_ge (lw := lw) (hg := hg) (n := n) (c := c) i
      have := th_le (lw := lw) (hg := hg) (n := n) (c := c) i
      omega, Tg.of le nb, ok.cc⟩
    have eW : Wd (tlF lw hg n c) (thF lw hg n c) n c = Wd lw hg n c := ws_ext fun f => Wd.tight_iff'
    have xs := X.wid_nn
    refine gName_go ?_
    dsimp only
    refine seq_go ?_
    intro p dx np ndx ne
    refine ⟨p, dx, rfl, upd_same, fun d H2 nd k2 O2 => ⟨rfl, ?_⟩⟩
    have s0 : Same H1 (upd (upd H1 dx (.own p)) p (.ins a.C dx [])) := fun c u e => by
      rw [upd_ne (fun z => by rw [z, np] at e; cases e), upd_ne (fun z => by rw [z, ndx] at e; cases e)]
      exact e
    have s2 : Same H1 H2 := fun c u e => k2 _ _ (s0 _ _ e) fun z => by
      rw [List.mem_singleton.mp z, np] at e
      cases e
    have nd1 : H1 d = none := by
      by_cases q : H1 d = none
      · exact q
      · obtain ⟨u, e⟩ := Option.ne_none_iff_exists'.mp q
        rw [s0 _ _ e] at nd
        cases nd
    refine gName_go ?_
    try refine next_go ?_
    try refine seq_go ?_
    have B2 := B1.same s2
    refine ⟨_, rfl, p, dx, _, rfl, O2.ob, kno (by decide +kernel), _, rfl, p, dx, d, [], v1, _, _, n, c, rfl, O2, B2, X, by omega, fun D H3 kn3 k3 O3 iD => ?_⟩
    refine ⟨_, rfl, _, rfl, p, dx, d, kn3, v1, _, _, n, c, rfl, O3, B2.mono (O2.tup k3), X, by omega, fun pl x H4 kn4 k4 O4 hpl so i4 => ?_⟩
    refine ⟨(by show 2 ≤ sizeLine; decide), fun r nr => ?_⟩
    rw [eW] at iD so i4
    have eD := iD.uniq i4
    subst eD
    have s4 : Same H1 H4 := fun c u e => (k3.trans k4) _ _ (s2 _ _ e) fun z => by
      rw [List.mem_singleton.mp z, nd1] at e
      cases e
    exact kk r pl x _ ((s1.trans s4).trans (same_upd nr)) upd_same (hpl.same (same_upd nr)) so i4
end
end Nu
namespace Nu
open PySem PySem.Spec PyProof.Rows L2
theorem hu65 {A : Around} {k : Nat} (hr : Room k A) : A.units + 65 < cLine := by
  have := hr.un
  omega
theorem eqvAll_ints : ∀ x y : List Int, PyData.eqvAll ((x.map V.int).map dV) ((y.map V.int).map dV) = decide (x = y)
  | [], [] => by simp [PyData.eqvAll]
  | [], b :: y => by simp [PyData.eqvAll]
  | a :: x, [] => by simp [PyData.eqvAll]
  | a :: x, b :: y => by
    rw [List.map_cons, List.map_cons, List.map_cons, List.map_cons]
    unfold PyData.eqvAll
    rw [eqvAll_ints x y]
    show (PyData.eqv (.int a) (.int b) && decide (x = y)) = _
    simp only [PyData.eqv]
    by_cases h : a = b
    · subst h
      simp
    · simp [h]
theorem eqv_dw (x y : List Int) : PyData.eqv (dw x) (dw y) = decide (x = y) := by
  unfold dw
  rw [← eqvAll_ints]
  simp only [PyData.eqv]
theorem dw_shaped (x : List Int) : SeqAt.shaped (dw x) = true := by
  unfold SeqAt.shaped
  have h1 := lay_worlds [x]
  have h2 := depth_worlds [x]
  simp only [List.map_cons, List.map_nil, PyData.canLayAll0, PyData.depthAll, Bool.and_true] at h1 h2
  rw [h1, Bool.true_and]
  exact decide_eq_true (by omega)
theorem dws_shaped (ws : List (List Int)) : SeqAt.shaped (.list (ws.map dw)) = true := by
  unfold SeqAt.shaped
  have h1 := lay_worlds ws
  have h2 := depth_worlds ws
  simp only [PyData.canLay0, PyData.depth, h1, Bool.true_and]
  exact decide_eq_true (by omega)
theorem any_dw (ws : List (List Int)) (y : List Int) : ((ws.map dw).any fun z => PyData.eqv z (dw y)) = decide (y ∈ ws) := by
  induction ws with
  | nil => simp
  | cons x r ih =>
    rw [List.map_cons, List.any_cons, ih, eqv_dw]
    by_cases h : x = y
    · subst h
      simp
    · simp [h, Ne.symm h, List.mem_cons, eq_comm]
section
variable {P : Program} {w : World} {K : PySem.W.Frag} {mg : Str → Option Value} {base : Heap} {a : Ad} {fd : Fd}
theorem dp_tup {H : Hp} {l : Addr} {x : List Int} (h : H l = some (.tup (x.map V.int))) : Dp K H (.ref l) (dw x) := .tup (SqT.of h) (dp_flats _ fun y hy => by
  obtain ⟨z, _, rfl⟩ := List.mem_map.mp hy
  rfl)
end
end Nu
namespace Nu
open PySem PySem.Spec PyProof.Rows L2
theorem op_catA_K {X : Cx} {K : PySem.W.Frag} (h : X.K = K) : OpR X (binaryOp .Add) (rCatA K) := h ▸ op_catA
def lof (xs : List Int) : Nat → Int := fun i => xs.getD i 0
theorem LI_lof (xs : List Int) : LI (lof xs) xs.length = xs := by
  refine List.ext_getElem? fun i => ?_
  by_cases h : i < xs.length
  · rw [LI_at _ h]
    unfold lof
    rw [List.getD_eq_getElem?_getD, List.getElem?_eq_getElem h]
    rfl
  · rw [List.getElem?_eq_none (by rw [LI_len]; omega), List.getElem?_eq_none (by omega)]
theorem lof_at {xs : List Int} {i : Nat} {x : Int} (h : xs[i]? = some x) : lof xs i = x := by
  unfold lof
  rw [List.getD_eq_getElem?_getD, h]
  rfl
theorem snoc_at {α : Type} {xs : List α} {x y : α} {j : Nat} (h : (xs ++ [x])[j]? = some y) : (xs[j]? = some y ∧ j < xs.length) ∨ (j = xs.length ∧ y = x) := by
  by_cases c : j < xs.length
  · rw [List.getElem?_append_left c] at h
    exact .inl ⟨h, c⟩
  · rw [List.getElem?_append_right (by omega)] at h
    have z : j - xs.length = 0 := by
      by_cases z : j - xs.length = 0
      · exact z
      · rw [List.getElem?_eq_none (by simp; omega)] at h
        cases h
    rw [z] at h
    cases h
    exact .inr ⟨by omega, rfl⟩
theorem sum_le7 : ∀ (xs : List Int), (∀ x ∈ xs, 0 ≤ x ∧ x ≤ 7) → 0 ≤ xs.sum ∧ xs.sum ≤ 7 * (xs.length : Int)
  | [], _ => by simp
  | x :: r, h => by
    have h1 := sum_le7 r fun y hy => h y (List.mem_cons_of_mem _ hy)
    have h2 := h x List.mem_cons_self
    rw [List.sum_cons, List.length_cons]
    omega
/-- the numbers of a drawn box -/
def BxL (xs ys : List Int) : Prop := ∀ (j : Nat) (x y : Int), xs[j]? = some x → ys[j]? = some y → 0 ≤ x ∧ x ≤ y ∧ y ≤ 7
section
variable {P : Program} {w : World} {K : PySem.W.Frag} {mg : Str → Option Value} {base : Heap} {a : Ad} {fd : Fd}
def spBox (K : PySem.W.Frag) : Sp := fun vs H Q _ => ∃ (s sc : Addr) (ns : List Int), vs = [.ref s] ∧ Drw K H s sc ns ∧
  ∀ v lw hg n c H', isB lw hg n n → cOk c → Keep [s] H H' → Drw K H' s sc ns → BoxH H' v lw hg n n c → Q v H'
theorem ok_l_box (T : Txt K mg a fd) : FnOk P w K mg base CX0 2 a.l_box fd.l_box ["_law_state"] (spBox K) := by
  have G_l_drawn := ok_l_drawn (P := P) (w := w) (base := base) T
  refine T.F_l_box.ok sc_l_box (fun vs H Q E h => ?_) (fun cdv A outer s0 H vs Q E hr h => ?_)
  · obtain ⟨s, sc, ns, rfl, _⟩ := h
    rfl
  · obtain ⟨s, sc, ns, rfl, D, k⟩ := h
    have hu := hu_of hr
    refine ⟨_, (pss_cons (ps_set (i := 1) sc_l_box.nd rfl (Or.inl rfl) (pe_op op_add pe_int (pe_call G_l_drawn (hr.mono (by decide)) (by rfl) T.g_l_drawn T.F_l_drawn.kp T.b_l_drawn .nil pass0 (pa_cons (pv 0) (pa_cons pe_int pa_nil)))))
    (pss_cons (ps_set (i := 2) sc_l_box.nd rfl (Or.inl rfl) (pe_ix ix_list (pe_lst (pa_cons pe_int (pa_cons pe_int (pa_cons pe_int pa_nil)))) (pe_op op_sub (pv 1) pe_int) (fun _ _ => rfl)))
    (pss_cons (ps_set (i := 3) sc_l_box.nd rfl (Or.inl rfl) (pe_lst pa_nil))
    (pss_cons (ps_set (i := 4) sc_l_box.nd rfl (Or.inl rfl) (pe_lst pa_nil))
    (pss_cons (ps_for PassesOwn.never rfl (pi_range1 (by rfl) T.n_range (pa_cons (pv 1) pa_nil)) (pg_name (i := 5) sc_l_box.nd rfl (Or.inl rfl))
      (pss_cons (ps_set (i := 6) sc_l_box.nd rfl (Or.inl rfl) (pe_op op_mul (pe_call G_l_drawn (hr.mono (by decide)) (by rfl) T.g_l_drawn T.F_l_drawn.kp T.b_l_drawn .nil pass0 (pa_cons (pv 0) (pa_cons pe_int pa_nil))) (pe_call G_l_drawn (hr.mono (by decide)) (by rfl) T.g_l_drawn T.F_l_drawn.kp T.b_l_drawn .nil pass0 (pa_cons (pv 0) (pa_cons pe_int pa_nil)))))
    (pss_cons (ps_expr (pe_bm PySem.F.plainAttrs_list PySem.F.slot_list_append PySem.F.type_list_append mt_append (pv 3) (pa_cons (pv 6) pa_nil)))
    (pss_one (ps_expr (pe_bm PySem.F.plainAttrs_list PySem.F.slot_list_append PySem.F.type_list_append mt_append (pv 4) (pa_cons (pe_callB (call_min2 rfl) (by rfl) T.n_min (by decide +kernel) (pa_cons pe_int (pa_cons (pe_op op_add (pv 6) (pe_call G_l_drawn (hr.mono (by decide)) (by rfl) T.g_l_drawn T.F_l_drawn.kp T.b_l_drawn .nil pass0 (pa_cons (pv 0) (pa_cons (pv 2) pa_nil)))) pa_nil))) pa_nil)))))))
    (pss_cons (ps_set (i := 7) sc_l_box.nd rfl (Or.inl rfl) (pe_callB (cr_sum rfl) (by rfl) T.n_sum (by decide +kernel) (pa_cons (pe_lc (own := [("_law_low", 6), ("_law_high", 8)]) (g := (gTup K 2 (gCons (gName 6) (gCons (gName 8) gNil)))) (by rfl) sc_l_box.nd (RZ.pi_zipA (by rfl) T.n_zip (pa_cons (pv 3) (pa_cons (pv 4) pa_nil))) (blkOk_by (own := [("_law_low", 6), ("_law_high", 8)]) (N := ["_law_state", "_law_many", "_law_wide", "_law_lows", "_law_highs", "_law_k", "_law_low", "_law_some", "_law_high", "_law_total"]) (sc := defScope s_l_box) (by decide +kernel)) (fun _ _ _ _ _ => pg_tupK (K := K) rfl (by rfl) (pgs_cons (pg_name (i := 6) sc_l_box.nd rfl (Or.inl rfl)) (pgs_cons (pg_name (i := 8) sc_l_box.nd rfl (Or.inl rfl)) pgs_nil))) (fun _ _ _ _ _ => pts_nil) (fun _ _ _ _ _ => (pe_op op_add (pv 6) (pe_call G_l_drawn (hr.mono (by decide)) (by rfl) T.g_l_drawn T.F_l_drawn.kp T.b_l_drawn .nil pass0 (pa_cons (pv 0) (pa_cons (pe_op op_add (pe_op op_sub (pv 8) (pv 6)) pe_int) pa_nil)))))) pa_nil)))
    (pss_cons (ps_set (i := 9) sc_l_box.nd rfl (Or.inl rfl) (pe_ix ix_list (pe_lst (pa_cons pe_non (pa_cons (pv 7) (pa_cons (pv 7) (pa_cons (pv 7) pa_nil))))) (pe_call G_l_drawn (hr.mono (by decide)) (by rfl) T.g_l_drawn T.F_l_drawn.kp T.b_l_drawn .nil pass0 (pa_cons (pv 0) (pa_cons pe_int pa_nil))) (fun _ _ => rfl)))
    (pss_cons (ps_if (pt_cmpR op_eq (pe_call G_l_drawn (hr.mono (by decide)) (by rfl) T.g_l_drawn T.F_l_drawn.kp T.b_l_drawn .nil pass0 (pa_cons (pv 0) (pa_cons pe_int pa_nil))) pe_int (nomark _)) (pss_one (ps_set (i := 9) sc_l_box.nd rfl (Or.inl rfl) (pe_ix ix_list (pe_lst (pa_cons (pe_op op_sub pe_int pe_int) (pa_cons (pe_op op_sub (pe_callB (cr_sum rfl) (by rfl) T.n_sum (by decide +kernel) (pa_cons (pv 3) pa_nil)) pe_int) (pa_cons (pe_op op_add (pe_callB (cr_sum rfl) (by rfl) T.n_sum (by decide +kernel) (pa_cons (pv 4) pa_nil)) pe_int) (pa_cons (pe_op op_pow pe_int pe_int) pa_nil))))) (pe_call G_l_drawn (hr.mono (by decide)) (by rfl) T.g_l_drawn T.F_l_drawn.kp T.b_l_drawn .nil pass0 (pa_cons (pv 0) (pa_cons pe_int pa_nil))) (fun _ _ => rfl)))) pss_nil)
    (pss_one (ps_ret (pe_tup (pa_cons (pe_callTy call_tuple_of (by rfl) T.n_tuple (by decide +kernel) (pa_cons (pv 3) pa_nil)) (pa_cons (pe_callTy call_tuple_of (by rfl) T.n_tuple (by decide +kernel) (pa_cons (pv 4) pa_nil)) (pa_cons (pv 9) pa_nil)))))))))))))), ?_⟩
    refine ⟨_, rfl, s, sc, ns, 3, rfl, D, by decide, by decide, fun x1 H1 a1 b1 k1 D1 => ⟨_, _, rfl, rfl, ?_⟩⟩
    obtain ⟨n, hn⟩ := Int.eq_ofNat_of_zero_le (show 0 ≤ 1 + x1 by omega)
    have n1 : 1 ≤ n := by omega
    have n3 : n ≤ 3 := by omega
    show gName 1 (V.int (1 + x1)) _ _ _
    rw [hn]
    refine gName_go ?_
    refine next_go ?_
    refine seq_go ?_
    refine ⟨(by show 3 ≤ sizeLine; decide), fun l1 nl1 => ?_⟩
    obtain ⟨wd, ewd, w1, w2⟩ : ∃ wd : Int, atI [V.int 8, V.int 5, V.int 3] ((n : Int) - 1) = some (.int wd) ∧ 1 ≤ wd ∧ wd ≤ 8 := by
      have : n = 1 ∨ n = 2 ∨ n = 3 := by omega
      rcases this with rfl | rfl | rfl
      · exact ⟨8, rfl, by decide, by decide⟩
      · exact ⟨5, rfl, by decide, by decide⟩
      · exact ⟨3, rfl, by decide, by decide⟩
    refine ⟨_, rfl, _, _, rfl, rfl, l1, _, _, _, rfl, rfl, SqL.of upd_same, ewd, ?_⟩
    have D2 := D1.new (o := .lst [V.int 8, V.int 5, V.int 3]) nl1
    have k2 : Keep [s] H (upd H1 l1 (.lst [V.int 8, V.int 5, V.int 3])) := k1.trans (Keep.same (same_upd nl1))
    generalize upd H1 l1 (.lst [V.int 8, V.int 5, V.int 3]) = H2 at D2 k2 ⊢
    refine gName_go ?_
    refine next_go ?_
    refine seq_go ?_
    refine ⟨Nat.zero_le _, fun p np => ?_⟩
    refine gName_go ?_
    refine next_go ?_
    refine seq_go ?_
    refine ⟨Nat.zero_le _, fun q nq => ?_⟩
    refine gName_go ?_
    refine next_go ?_
    refine seq_go ?_
    have pq : p ≠ q := fun z => by rw [← z, upd_same] at nq; cases nq
    have np2 : H p = none := k2.free np (D2.ns np)
    have k4 : Keep [s] H (upd (upd H2 p (.lst [])) q (.lst [])) := (k2.trans (Keep.same (same_upd np))).trans (Keep.same (same_upd nq))
    have nq2 : H q = none := (k2.trans (Keep.same (same_upd np))).free nq ((D2.new np).ns nq)
    have D4 := (D2.new (o := .lst ([] : List V)) np).new (o := .lst ([] : List V)) nq
    have hp4 : (upd (upd H2 p (.lst [])) q (.lst [])) p = some (.lst []) := same_upd nq _ _ upd_same
    have hq4 : (upd (upd H2 p (.lst [])) q (.lst [])) q = some (.lst []) := upd_same
    generalize upd (upd H2 p (.lst [])) q (.lst []) = H4 at D4 k4 hp4 hq4 ⊢
    have sp : s ≠ p := fun z => D2.ns np (by rw [z]; exact List.mem_singleton.mpr rfl)
    have sq : s ≠ q := fun z => (D2.new (o := .lst ([] : List V)) np).ns nq (by rw [z]; exact List.mem_singleton.mpr rfl)
    refine next_go ?_
    refine seq_go ?_
    refine ⟨_, rfl, _, rfl, by omega, by omega, ?_⟩
    refine for_range (lo := 0) (n := ((n : Int)).toNat) (fun i σ H' => ∃ (xs ys : List Int) (v5 v6 : Option V), σ = [some (.ref s), some (.int (n : Int)), some (.int wd), some (.ref p), some (.ref q), v5, v6, none, none, none] ∧ xs.length = i ∧ ys.length = i ∧ BxL xs ys ∧ Keep [s] H H' ∧ Drw K H' s sc ns ∧ H' p = some (.lst (xs.map V.int)) ∧ H' q = some (.lst (ys.map V.int)))
      ⟨[], [], none, none, rfl, rfl, rfl, fun j x y e => by simp at e, k4, D4, hp4, hq4⟩ ?_ ?_
    · rintro i σ H5 hi ⟨xs, ys, v5, v6, rfl, hx, hy, hb, k5, D5, hp5, hq5⟩
      refine gName_go ?_
      refine ⟨_, rfl, s, sc, ns, 3, rfl, D5, by decide, by decide, fun d1 H6 a6 b6 k6 D6 => ?_⟩
      refine ⟨_, rfl, s, sc, ns, 2, rfl, D6, by decide, by decide, fun d2 H7 a7 b7 k7 D7 => ⟨_, _, rfl, rfl, .inr ⟨by omega, by omega⟩, ?_⟩⟩
      obtain ⟨lo, elo, l0, l2⟩ : ∃ lo : Int, d1 * d2 = lo ∧ 0 ≤ lo ∧ lo ≤ 2 := by
        have : d2 = 0 ∨ d2 = 1 := by omega
        rcases this with rfl | rfl
        · exact ⟨0, by omega, by decide, by decide⟩
        · exact ⟨d1, by omega, by omega, by omega⟩
      show gName 6 (V.int (d1 * d2)) _ _ _
      rw [elo]
      refine gName_go ?_
      refine next_go ?_
      refine seq_go ?_
      have k57 := k6.trans k7
      have hp7 : H7 p = some (.lst (xs.map V.int)) := k57 _ _ hp5 (fun z => sp (List.mem_singleton.mp z).symm)
      have hq7 : H7 q = some (.lst (ys.map V.int)) := k57 _ _ hq5 (fun z => sq (List.mem_singleton.mp z).symm)
      refine ⟨_, rfl, .inl ⟨rfl, _, SqL.of hp7⟩, _, rfl, p, _, _, rfl, rfl, hp7, small1000 (by rw [List.length_map]; omega), ?_⟩
      have hq8 : (upd H7 p (.lst (xs.map V.int ++ [V.int lo]))) q = some (.lst (ys.map V.int)) := by rw [upd_ne (Ne.symm pq)]; exact hq7
      have hp8 : (upd H7 p (.lst (xs.map V.int ++ [V.int lo]))) p = some (.lst (xs.map V.int ++ [V.int lo])) := upd_same
      have k47 : Keep [s] H H7 := k5.trans k57
      have k8 : Keep [s] H (upd H7 p (.lst (xs.map V.int ++ [V.int lo]))) := fun c u e z => by
        rw [upd_ne (fun q => by rw [q, np2] at e; cases e)]
        exact k47 c u e z
      have D8 : Drw K (upd H7 p (.lst (xs.map V.int ++ [V.int lo]))) s sc ns := D.over k47 D7 np2
      generalize upd H7 p (.lst (xs.map V.int ++ [V.int lo])) = H8 at hq8 hp8 k8 D8 ⊢
      refine next_go ?_
      refine ⟨_, rfl, .inl ⟨rfl, _, SqL.of hq8⟩, _, rfl, _, rfl, _, rfl, s, sc, ns, wd, rfl, D8, by omega, by have := intOkS (x := wd) (by omega) (by omega); unfold IntOk at this; omega, fun d3 H9 a9 b9 k9 D9 => ?_⟩
      refine ⟨_, _, rfl, rfl, _, _, rfl, ?_⟩
      have hq9 : H9 q = some (.lst (ys.map V.int)) := k9 _ _ hq8 (fun z => sq (List.mem_singleton.mp z).symm)
      have hp9 : H9 p = some (.lst (xs.map V.int ++ [V.int lo])) := k9 _ _ hp8 (fun z => sp (List.mem_singleton.mp z).symm)
      obtain ⟨hi', ehi, h0, h7⟩ : ∃ hi' : Int, (if lo + d3 < 7 then lo + d3 else 7) = hi' ∧ lo ≤ hi' ∧ hi' ≤ 7 := by
        by_cases c : lo + d3 < 7
        · exact ⟨lo + d3, if_pos c, by omega, by omega⟩
        · exact ⟨7, if_neg c, by omega, by omega⟩
      refine ⟨q, _, _, rfl, rfl, hq9, small1000 (by rw [List.length_map]; omega), ?_⟩
      have k49 : Keep [s] H H9 := k8.trans k9
      refine ⟨xs ++ [lo], ys ++ [hi'], _, _, rfl, by rw [List.length_append, hx]; rfl, by rw [List.length_append, hy]; rfl, fun j x y e1 e2 => ?_, fun c u e z => ?_, D.over k49 D9 nq2, ?_, ?_⟩
      · rcases snoc_at e1 with ⟨e1, g1⟩ | ⟨g1, rfl⟩
        · rcases snoc_at e2 with ⟨e2, g2⟩ | ⟨g2, rfl⟩
          · exact hb j x y e1 e2
          · omega
        · rcases snoc_at e2 with ⟨e2, g2⟩ | ⟨g2, rfl⟩
          · omega
          · omega
      · rw [upd_ne (fun q => by rw [q, nq2] at e; cases e)]
        exact k49 c u e z
      · rw [upd_ne pq, hp9, List.map_append]
        rfl
      · rw [upd_same, List.map_append, ← ehi]
        rfl
    · rintro σ H5 ⟨xs, ys, v5, v6, rfl, hx, hy, hb, k5, D5, hp5, hq5⟩
      rw [Int.toNat_natCast] at hx hy
      have sp5 : ∀ {H6 : Hp}, Keep [s] H5 H6 → H6 p = some (.lst (xs.map V.int)) := fun {H6} kk => kk _ _ hp5 (fun z => sp (List.mem_singleton.mp z).symm)
      have sq5 : ∀ {H6 : Hp}, Keep [s] H5 H6 → H6 q = some (.lst (ys.map V.int)) := fun {H6} kk => kk _ _ hq5 (fun z => sq (List.mem_singleton.mp z).symm)
      refine next_go ?_
      refine seq_go ?_
      refine ⟨_, rfl, _, rfl, p, q, _, _, rfl, .inl ⟨SqL.of hp5, SqL.of hq5, fun D nD => ?_⟩⟩
      have kD : ∀ {H7 : Hp} {u : HO}, Keep [s] H5 H7 → Keep [s] H5 (upd H7 D u) := fun {H7 u} k7 c o e n => by
        rw [upd_ne (fun z => by rw [z, nD] at e; cases e)]
        exact k7 c o e n
      have sD : s ≠ D := fun z => D5.ns nD (by rw [z]; exact List.mem_singleton.mpr rfl)
      refine lc_it (walk_zip (n := n) (by rw [List.length_map, List.length_map]; omega)) (fun j H' => ∃ zs : List Int, zs.length = j ∧ (∀ z ∈ zs, 0 ≤ z ∧ z ≤ 7) ∧ Keep [s] H5 H' ∧ Drw K H' s sc ns ∧ H' D = some (.lst (zs.map V.int)))
        ⟨[], rfl, fun z h => by simp at h, Keep.same (same_upd nD), D5.new nD, upd_same⟩ (fun j H' _ ⟨zs, _, _, k6, _, _⟩ => ⟨SqL.of (sp5 k6), SqL.of (sq5 k6)⟩) ?_ ?_
      · rintro j x H6 H6' hj ⟨zs, hz, hzb, k6, D6, hD⟩ ⟨Tz, x1, y1, rfl, nT, rfl, e1, e2⟩
        have e1 : (xs.map V.int)[j]? = some x1 := e1
        have e2 : (ys.map V.int)[j]? = some y1 := e2
        obtain ⟨lo, e3, rfl⟩ := map_int_at e1
        obtain ⟨hh, e4, rfl⟩ := map_int_at e2
        have bb := hb j lo hh e3 e4
        have DT : D ≠ Tz := fun z => by rw [← z, hD] at nT; cases nT
        refine ⟨Tz, _, rfl, SqT.of upd_same, rfl, _, _, rfl, _, _, rfl, rfl, rfl, ?_⟩
        dsimp only [tYes]
        rw [if_pos rfl]
        have D7 := D6.new (o := .tup [V.int lo, V.int hh]) nT
        have k7 : Keep [s] H5 (upd H6 Tz (.tup [V.int lo, V.int hh])) := k6.trans (Keep.same (same_upd nT))
        have hD7 : (upd H6 Tz (.tup [V.int lo, V.int hh])) D = some (.lst (zs.map V.int)) := same_upd nT _ _ hD
        refine ⟨_, rfl, _, rfl, _, rfl, _, rfl, _, _, rfl, rfl, _, _, rfl, rfl, s, sc, ns, hh - lo + 1, rfl, D7, by omega, by have := intOkS (x := hh - lo + 1) (by omega) (by omega); unfold IntOk at this; omega, fun d H8 a8 b8 k8 D8 => ⟨_, _, rfl, rfl, ?_⟩⟩
        refine ⟨_, k8 _ _ hD7 (fun z => sD (List.mem_singleton.mp z).symm), small1000 (by rw [List.length_map]; omega), zs ++ [lo + d], by rw [List.length_append, hz]; rfl, fun z hzz => ?_, kD (k7.trans k8), D5.over (k7.trans k8) D8 nD, ?_⟩
        · rcases List.mem_append.mp hzz with h | h
          · exact hzb z h
          · rw [List.mem_singleton.mp h]
            omega
        · rw [upd_same, List.map_append]
          rfl
      · rintro H6 ⟨zs, hz, hzb, k6, D6, hD⟩
        refine ⟨D, zs, rfl, SqL.of hD, ?_⟩
        have sb := sum_le7 zs hzb
        rw [hz] at sb
        generalize zs.sum = tot at sb ⊢
        refine gName_go ?_
        refine next_go ?_
        refine seq_go ?_
        refine ⟨_, rfl, _, rfl, _, rfl, (by show 4 ≤ sizeLine; decide), fun l2 nl2 => ?_⟩
        have D7 := D6.new (o := .lst [V.non, V.int tot, V.int tot, V.int tot]) nl2
        have k7 : Keep [s] H5 (upd H6 l2 (.lst [V.non, V.int tot, V.int tot, V.int tot])) := k6.trans (Keep.same (same_upd nl2))
        refine ⟨_, rfl, s, sc, ns, 4, rfl, D7, by decide, by decide, fun d H8 a8 b8 k8 D8 => ?_⟩
        obtain ⟨c, ec, oc⟩ : ∃ c : Option Int, atI [V.non, V.int tot, V.int tot, V.int tot] d = some (cV c) ∧ cOk c := by
          have : d = 0 ∨ d = 1 ∨ d = 2 ∨ d = 3 := by omega
          rcases this with rfl | rfl | rfl | rfl
          · exact ⟨none, rfl, cOk_none⟩
          · exact ⟨some tot, rfl, cOk_of (by omega)⟩
          · exact ⟨some tot, rfl, cOk_of (by omega)⟩
          · exact ⟨some tot, rfl, cOk_of (by omega)⟩
        have hl2 := k8 _ _ upd_same (D6.ns nl2)
        refine ⟨l2, _, d, _, rfl, rfl, SqL.of hl2, ec, ?_⟩
        refine gName_go ?_
        dsimp only
        refine seq_go ?_
        have k8' : Keep [s] H5 H8 := k7.trans k8
        clear ec hl2 D7 k7 k8 hD
        refine ifS_join (fun σ' H' => ∃ c' : Option Int, σ' = [some (.ref s), some (.int (n : Int)), some (.int wd), some (.ref p), some (.ref q), v5, v6, some (.int tot), none, some (cV c')] ∧ cOk c' ∧ Keep [s] H5 H' ∧ Drw K H' s sc ns) (fun nx hnx => ?_) ?_
        · refine ⟨_, rfl, s, sc, ns, 12, rfl, D8, by decide, by decide, fun e H9 a9 b9 k9 D9 => ⟨rfl, _, rfl, ?_⟩⟩
          by_cases c1 : e = 11
          · rw [deqI c1]
            refine iteT ?_
            have k59 : Keep [s] H5 H9 := k8'.trans k9
            refine ⟨_, _, rfl, rfl, ?_⟩
            refine ⟨_, rfl, p, xs, rfl, SqL.of (sp5 k59), _, _, rfl, rfl, ?_⟩
            refine ⟨_, rfl, q, ys, rfl, SqL.of (sq5 k59), _, _, rfl, rfl, ?_⟩
            refine ⟨_, _, rfl, rfl, ⟨by decide, by decide, by decide⟩, (by show 4 ≤ sizeLine; decide), fun l3 nl3 => ?_⟩
            have D10 := D9.new (o := .lst [V.int (0 - 1), V.int (xs.sum - 1), V.int (ys.sum + 1), V.int ((10 : Int) ^ (59 : Int).toNat)]) nl3
            refine ⟨_, rfl, s, sc, ns, 4, rfl, D10, by decide, by decide, fun f H11 a11 b11 k11 D11 => ?_⟩
            have xb : ∀ x ∈ xs, 0 ≤ x ∧ x ≤ 7 := fun x hxm => by
              obtain ⟨j, hj, rfl⟩ := List.getElem_of_mem hxm
              have := hb j _ _ (List.getElem?_eq_getElem hj) (List.getElem?_eq_getElem (by omega))
              omega
            have yb : ∀ x ∈ ys, 0 ≤ x ∧ x ≤ 7 := fun x hxm => by
              obtain ⟨j, hj, rfl⟩ := List.getElem_of_mem hxm
              have := hb j _ _ (List.getElem?_eq_getElem (by omega)) (List.getElem?_eq_getElem hj)
              omega
            have sx := sum_le7 xs xb
            have sy := sum_le7 ys yb
            rw [hx] at sx
            rw [hy] at sy
            obtain ⟨g, eg, og⟩ : ∃ g : Int, atI [V.int (0 - 1), V.int (xs.sum - 1), V.int (ys.sum + 1), V.int ((10 : Int) ^ (59 : Int).toNat)] f = some (V.int g) ∧ IntOk g := by
              have : f = 0 ∨ f = 1 ∨ f = 2 ∨ f = 3 := by omega
              rcases this with rfl | rfl | rfl | rfl
              · exact ⟨_, rfl, log_abs rfl (by decide)⟩
              · exact ⟨_, rfl, log_abs rfl (by omega)⟩
              · exact ⟨_, rfl, log_abs rfl (by omega)⟩
              · exact ⟨_, rfl, intOk59 (by decide +kernel) (by decide +kernel)⟩
            refine ⟨l3, _, f, _, rfl, rfl, SqL.of (k11 _ _ upd_same (D9.ns nl3)), eg, ?_⟩
            refine gName_go ?_
            exact hnx _ _ ⟨some g, rfl, cOk_int og, (k59.trans (Keep.same (same_upd nl3))).trans k11, D11⟩
          · rw [dneI c1]
            refine iteF ?_
            refine next_go ?_
            exact hnx _ _ ⟨c, rfl, oc, k8'.trans k9, D9⟩
        · rintro σ' H9 ⟨c', rfl, oc', k9, D9⟩
          have hp9 := sp5 k9
          have hq9 := sq5 k9
          refine next_go ?_
          refine ⟨_, rfl, p, _, rfl, .inl ⟨SqL.of hp9, fun t1 nt1 => ?_⟩⟩
          have s1 : Same H9 (upd H9 t1 (.tup (xs.map V.int))) := same_upd nt1
          refine ⟨_, rfl, q, _, rfl, .inl ⟨SqL.of (s1 _ _ hq9), fun t2 nt2 => ?_⟩⟩
          have s2 := s1.trans (same_upd (o := .tup (ys.map V.int)) nt2)
          refine ⟨_, rfl, (by show 3 ≤ sizeLine; decide), fun t3 nt3 => ?_⟩
          have s3 := s2.trans (same_upd (o := .tup [V.ref t1, V.ref t2, cV c']) nt3)
          have ex : LI (lof xs) n = xs := by rw [← hx, LI_lof]
          have ey : LI (lof ys) n = ys := by rw [← hy, LI_lof]
          refine k _ (lof xs) (lof ys) n c' _ ⟨rfl, n1, n3, fun i hi => ?_⟩ oc' ((k5.trans k9).trans (Keep.same s3)) (D9.same s3) ⟨t3, t1, t2, rfl, upd_same, ?_, ?_⟩
          · have e1 : xs[i]? = some (xs[i]'(by omega)) := List.getElem?_eq_getElem _
            have e2 : ys[i]? = some (ys[i]'(by omega)) := List.getElem?_eq_getElem _
            rw [lof_at e1, lof_at e2]
            exact hb i _ _ e1 e2
          · rw [ex]
            exact same_upd nt3 _ _ (same_upd nt2 _ _ upd_same)
          · rw [ey]
            exact same_upd nt3 _ _ upd_same
end
end Nu
namespace Nu
open PySem PySem.Spec PyProof.Rows L2
theorem ext1_snoc (p : List Int) (vs : List Int) (v : Int) : ext1 p (vs ++ [v]) = ext1 p vs ++ [p ++ [v]] := by
  unfold ext1
  rw [List.map_append]
  rfl
theorem TL.app {H : Hp} {ts us : List Addr} {ws xs : List (List Int)} (h : TL H ts ws) (g : TL H us xs) : TL H (ts ++ us) (ws ++ xs) := by
  refine ⟨by rw [List.length_append, List.length_append, h.len, g.len], fun i t x e f => ?_⟩
  have l := h.len
  by_cases c : i < ts.length
  · rw [List.getElem?_append_left c] at e
    rw [List.getElem?_append_left (by omega)] at f
    exact h.at_ i t x e f
  · rw [List.getElem?_append_right (by omega)] at e
    rw [List.getElem?_append_right (by omega), ← l] at f
    exact g.at_ _ t x e f
section
variable {P : Program} {w : World} {K : PySem.W.Frag} {mg : Str → Option Value} {base : Heap} {a : Ad} {fd : Fd}
def spLonger : Sp := fun vs H Q _ => ∃ (r : Addr) (ts : List Addr) (ws : List (List Int)) (lo hi : Int), vs = [.ref r, .int lo, .int hi] ∧ H r = some (.lst (ts.map V.ref)) ∧ TL H ts ws ∧ (∀ x ∈ ws, x.length ≤ 10) ∧ 0 ≤ lo ∧ lo ≤ hi ∧ hi ≤ 7 ∧ ws.length * 8 ≤ 900 ∧
  ∀ r' ts' H', Same H H' → H r' = none → H' r' = some (.lst (ts'.map V.ref)) → TL H' ts' (ws.flatMap fun p => ext1 p (rng lo hi)) → Q (.ref r') H'
theorem ok_l_longer (T : Txt K mg a fd) : FnOk P w K mg base CX0 1 a.l_longer fd.l_longer ["_law_found", "_law_low", "_law_high"] spLonger := by
  refine T.F_l_longer.ok sc_l_longer (fun vs H Q E h => ?_) (fun cdv A outer s0 H vs Q E hr h => ?_)
  · obtain ⟨r, ts, ws, lo, hi, rfl, _⟩ := h
    rfl
  · obtain ⟨r, ts, ws, lo, hi, rfl, hr1, hT, hlen, b1, b2, b3, b4, k⟩ := h
    have hu := hu_of hr
    refine ⟨_, (pss_cons (ps_set (i := 3) sc_l_longer.nd rfl (Or.inl rfl) (pe_lst pa_nil))
    (pss_cons (ps_for PassesOwn.never rfl (pi_list (pv 0)) (pg_name (i := 4) sc_l_longer.nd rfl (Or.inr rfl))
      (pss_one (ps_expr (pe_bm PySem.F.plainAttrs_list PySem.F.slot_list_extend PySem.F.type_list_extend mt_extend (pv 3) (pa_cons (pe_lc (own := [("_law_many", 5)]) (g := gName 5) (by rfl) sc_l_longer.nd (pi_range2 (by rfl) T.n_range (pa_cons (pv 1) (pa_cons (pe_op op_add (pv 2) pe_int) pa_nil))) (blkOk_by (own := [("_law_many", 5)]) (N := ["_law_found", "_law_low", "_law_high", "_law_longer_here", "_law_world", "_law_many"]) (sc := defScope s_l_longer) (by decide +kernel)) (fun _ _ _ _ _ => pg_name (i := 5) sc_l_longer.nd rfl (Or.inl rfl)) (fun _ _ _ _ _ => pts_nil) (fun _ _ _ _ _ => (pe_op (op_catA_K (K := K) rfl) (pv 4) (pe_tup (pa_cons (pv 5) pa_nil))))) pa_nil)))))
    (pss_one (ps_ret (pv 3))))), ?_⟩
    refine ⟨Nat.zero_le _, fun q nq => ?_⟩
    refine gName_go ?_
    dsimp only
    refine seq_go ?_
    have rq : r ≠ q := fun z => by rw [z, nq] at hr1; cases hr1
    have tl := hT.len
    refine ⟨_, rfl, r, rfl, ⟨_, SqL.of (same_upd nq _ _ hr1)⟩, for_list (K := K) (a := r) (xs := ts.map V.ref) (fun i σ H' => ∃ (ts' : List Addr) (v4 : Option V), σ = [some (.ref r), some (.int lo), some (.int hi), some (.ref q), v4, none] ∧ Same H H' ∧ H' q = some (.lst (ts'.map V.ref)) ∧ TL H' ts' ((ws.take i).flatMap fun p => ext1 p (rng lo hi)))
      ⟨[], none, rfl, same_upd nq, upd_same, TL.nil _⟩ (fun i σ H' _ ⟨_, _, _, s1, _⟩ => SqL.of (s1 _ _ hr1)) ?_ ?_⟩
    · rintro i x σ H1 hx ⟨ts', v4, rfl, s1, hq, hT1⟩
      rw [List.getElem?_map] at hx
      obtain ⟨t, et, rfl⟩ := Option.map_eq_some_iff.mp hx
      obtain ⟨p, ep, ht⟩ := hT.get et
      have hi' : i < ws.length := (List.getElem?_eq_some_iff.mp ep).1
      have pl : p.length ≤ 10 := hlen p (List.mem_of_getElem? ep)
      have tk : ws.take (i + 1) = ws.take i ++ [p] := by
        rw [List.take_add_one, ep]
        rfl
      have l1 : ((ws.take i).flatMap fun p => ext1 p (rng lo hi)).length ≤ (ws.take i).length * 8 := flat_len _ fun x _ => by
        unfold ext1
        rw [List.length_map, rng_len]
        omega
      have l2 : (ws.take i).length ≤ i := by rw [List.length_take]; omega
      have l3 := hT1.len
      refine gName_go ?_
      refine ⟨_, rfl, .inl ⟨rfl, _, SqL.of hq⟩, ?_⟩
      refine ⟨_, rfl, _, rfl, _, _, rfl, rfl, _, _, rfl, ⟨by omega, by omega, by omega, by omega⟩, fun D nD => ?_⟩
      refine lc_range (lo := lo) (n := (hi + 1 - lo).toNat) (fun j H' => Same H1 H' ∧ ∃ ts2 : List Addr, H' D = some (.lst (ts2.map V.ref)) ∧ TL H' ts2 (ext1 p (LI (fun i => lo + (i : Int)) j)))
        ⟨same_upd nD, [], upd_same, TL.nil _⟩ ?_ ?_
      · rintro j H2 hj ⟨s2, ts2, hD, hT2⟩
        refine ⟨wipe1 _ _ _, ?_⟩
        dsimp only [tYes]
        rw [if_pos rfl]
        have ht2 := s2 _ _ (s1 _ _ ht)
        refine ⟨_, rfl, _, rfl, (by show 1 ≤ sizeLine; decide), fun u nu => ?_⟩
        have s3 : Same H2 (upd H2 u (.tup [V.int (lo + (j : Int))])) := same_upd nu
        refine cat_go (s3 _ _ ht2) upd_same (by rw [List.length_map, List.length_singleton]; omega) fun z H3 s4 hz => ?_
        have s24 := s3.trans s4
        have hD3 := s24 _ _ hD
        have Dz : D ≠ z := fun q => by rw [← q, hD3] at hz; cases hz
        have l4 := hT2.len
        unfold ext1 at l4
        rw [List.length_map, LI_len] at l4
        refine ⟨_, hD3, small1000 (by rw [List.length_map]; omega), fun c u e => ?_, ts2 ++ [z], ?_, ?_⟩
        · rw [upd_ne (fun z => by rw [z, nD] at e; cases e)]
          exact s24 c u (s2 c u e)
        · rw [upd_same, List.map_append]
          rfl
        · rw [LI_succ, ext1_snoc]
          refine TL.put ((hT2.same s24).snoc ?_) (.inl ⟨_, hD3⟩)
          rw [List.map_append]
          exact hz
      · rintro H2 ⟨s2, ts2, hD, hT2⟩
        have hq2 := s2 _ _ hq
        have l4 := hT2.len
        unfold ext1 at l4
        rw [List.length_map, LI_len] at l4
        refine ⟨q, D, _, _, rfl, rfl, hq2, hD, Nat.le_of_lt (small1000 (by rw [List.length_map, List.length_map]; omega)), ?_⟩
        refine ⟨ts' ++ ts2, _, rfl, fun c u e => ?_, ?_, ?_⟩
        · rw [upd_ne (fun z => by rw [z, nq] at e; cases e)]
          exact s2 c u (s1 c u e)
        · rw [upd_same, List.map_append]
        · rw [tk, flat_snoc]
          refine TL.put ?_ (.inl ⟨_, hq2⟩)
          exact (hT1.same s2).app hT2
    · rintro σ H1 ⟨ts', v4, rfl, s1, hq, hT1⟩
      rw [List.length_map, tl, List.take_length] at hT1
      exact ⟨_, rfl, k q ts' H1 s1 nq hq hT1⟩
end
end Nu
namespace Nu
open PySem PySem.Spec PyProof.Rows L2
theorem wAll_len8 {lw hg : Nat → Int} : ∀ n : Nat, (∀ i, i < n → 0 ≤ lw i ∧ hg i ≤ 7) → (wAll lw hg n).length ≤ 8 ^ n
  | 0, _ => Nat.le_refl _
  | n + 1, h => by
    have h1 := wAll_len8 n fun i hi => h i (by omega)
    have h2 := h n (by omega)
    have h3 : (wAll lw hg (n + 1)).length ≤ (wAll lw hg n).length * 8 := flat_len _ fun x _ => by
      unfold ext1
      rw [List.length_map, rng_len]
      omega
    rw [Nat.pow_succ]
    omega
theorem wAll_el {lw hg : Nat → Int} {n : Nat} {x : List Int} (h : x ∈ wAll lw hg n) : x.length = n := by
  obtain ⟨f, rfl, _⟩ := mem_wAll.mp h
  exact LI_len _ _
section
variable {P : Program} {w : World} {K : PySem.W.Frag} {mg : Str → Option Value} {base : Heap} {a : Ad} {fd : Fd}
def spOf : Sp := fun vs H Q _ => ∃ (p q : Addr) (lw hg : Nat → Int) (n : Nat) (c : Option Int), vs = [.ref p, .ref q, cV c] ∧ H p = some (.tup ((LI lw n).map V.int)) ∧ H q = some (.tup ((LI hg n).map V.int)) ∧ n ≤ 3 ∧ (∀ i, i < n → 0 ≤ lw i ∧ lw i ≤ hg i ∧ hg i ≤ 7) ∧
  ∀ r ts H', Same H H' → H r = none → H' r = some (.lst (ts.map V.ref)) → TL H' ts ((wAll lw hg n).filter (okC c)) → Q (.ref r) H'
theorem ok_l_of (T : Txt K mg a fd) : FnOk P w K mg base CX0 2 a.l_of fd.l_of ["_law_lows", "_law_highs", "_law_total"] spOf := by
  have G_l_longer := ok_l_longer (P := P) (w := w) (base := base) T
  refine T.F_l_of.ok sc_l_of (fun vs H Q E h => ?_) (fun cdv A outer s0 H vs Q E hr h => ?_)
  · obtain ⟨p, q, lw, hg, n, c, rfl, _⟩ := h
    rfl
  · obtain ⟨p, q, lw, hg, n, c, rfl, hp, hq, n3, hb, k⟩ := h
    have hu := hu_of hr
    refine ⟨_, (pss_cons (ps_set (i := 3) sc_l_of.nd rfl (Or.inl rfl) (pe_lst (pa_cons (pe_tup pa_nil) pa_nil)))
    (pss_cons (ps_for PassesOwn.never rfl (RZ.pi_zipA (by rfl) T.n_zip (pa_cons (pv 0) (pa_cons (pv 1) pa_nil))) (pg_tup (by rfl) (pgs_cons (pg_name (i := 4) sc_l_of.nd rfl (Or.inl rfl)) (pgs_cons (pg_name (i := 5) sc_l_of.nd rfl (Or.inl rfl)) pgs_nil)))
      (pss_one (ps_set (i := 3) sc_l_of.nd rfl (Or.inl rfl) (pe_call G_l_longer (hr.mono (by decide)) (by rfl) T.g_l_longer T.F_l_longer.kp T.b_l_longer .nil pass0 (pa_cons (pv 3) (pa_cons (pv 4) (pa_cons (pv 5) pa_nil)))))))
    (pss_one (ps_ret (pe_lc (own := [("_law_world", 6)]) (g := gName 6) (by rfl) sc_l_of.nd (pi_list (pv 3)) (blkOk_by (own := [("_law_world", 6)]) (N := ["_law_lows", "_law_highs", "_law_total", "_law_found", "_law_low", "_law_high", "_law_world"]) (sc := defScope s_l_of) (by decide +kernel)) (fun _ _ _ _ _ => pg_name (i := 6) sc_l_of.nd rfl (Or.inl rfl)) (fun _ _ _ _ _ => (pts_one (PW.pt (pw_or (pt_cmpR op_isN (pv 2) pe_non (nomark _)) (pw_or1 (pt_cmpR op_eq (pe_callB (cr_sumT_K (K := K) rfl rfl) (by rfl) T.n_sum (by decide +kernel) (pa_cons (pv 6) pa_nil)) (pv 2) (nomark _))))))) (fun _ _ _ _ _ => (pv 6))))))), ?_⟩
    refine ⟨Nat.zero_le _, fun e0 ne0 => ?_⟩
    refine ⟨(by show 1 ≤ sizeLine; decide), fun r0 nr0 => ?_⟩
    refine gName_go ?_
    dsimp only
    refine seq_go ?_
    have s0 : Same H (upd (upd H e0 (.tup [])) r0 (.lst [V.ref e0])) := (same_upd ne0).trans (same_upd nr0)
    have er : e0 ≠ r0 := fun z => by rw [← z, upd_same] at nr0; cases nr0
    have h0 : (upd (upd H e0 (.tup [])) r0 (.lst [V.ref e0])) e0 = some (.tup []) := by rw [upd_ne er]; exact upd_same
    have hr0 : (upd (upd H e0 (.tup [])) r0 (.lst [V.ref e0])) r0 = some (.lst [V.ref e0]) := upd_same
    have nr0' : H r0 = none := (same_upd ne0).free nr0
    generalize upd (upd H e0 (.tup [])) r0 (.lst [V.ref e0]) = H0 at s0 h0 hr0 ⊢
    refine ⟨_, rfl, _, rfl, p, q, _, _, rfl, .inr ⟨SqT.of (s0 _ _ hp), SqT.of (s0 _ _ hq), ?_⟩⟩
    refine RZ.for_zipT (K := K) (a := p) (b := q) (xs := (LI lw n).map V.int) (ys := (LI hg n).map V.int) (by rw [List.length_map, List.length_map, LI_len, LI_len]) (fun i σ H' => ∃ (r : Addr) (ts : List Addr) (v4 v5 : Option V), σ = [some (.ref p), some (.ref q), some (cV c), some (.ref r), v4, v5, none] ∧ Same H H' ∧ H r = none ∧ H' r = some (.lst (ts.map V.ref)) ∧ TL H' ts (wAll lw hg i))
      ⟨r0, [e0], none, none, rfl, s0, nr0', hr0, (TL.nil _).snoc h0⟩ (fun i σ H' ⟨_, _, _, _, _, s1, _⟩ => ⟨SqT.of (s1 _ _ hp), SqT.of (s1 _ _ hq)⟩) ?_ ?_
    · rintro i x y Tz σ H1 hx hy ⟨r, ts, v4, v5, rfl, s1, nr, hr1, hT⟩ nT
      have hi : i < n := by
        have := (List.getElem?_eq_some_iff.mp hx).1
        rw [List.length_map, LI_len] at this
        exact this
      rw [List.getElem?_map, LI_at _ hi] at hx hy
      cases hx
      cases hy
      have bi := hb i hi
      have wl := wAll_len8 (lw := lw) (hg := hg) i fun j hj => by
        have := hb j (by omega)
        exact ⟨this.1, this.2.2⟩
      have p8 : 8 ^ i ≤ 64 := by
        have : i = 0 ∨ i = 1 ∨ i = 2 := by omega
        rcases this with rfl | rfl | rfl <;> decide
      have s2 : Same H1 (upd H1 Tz (.tup [V.int (lw i), V.int (hg i)])) := same_upd nT
      refine ⟨Tz, _, rfl, SqT.of upd_same, rfl, _, _, rfl, _, _, rfl, rfl, ?_⟩
      refine ⟨_, rfl, _, rfl, _, rfl, r, ts, _, lw i, hg i, rfl, s2 _ _ hr1, hT.same s2, fun x hx => by have := wAll_el hx; omega, bi.1, bi.2.1, bi.2.2, by omega, fun r' ts' H3 s3 nr' hr' hT' => ?_⟩
      refine gName_go ?_
      exact ⟨r', ts', _, _, rfl, (s1.trans s2).trans s3, (s1.trans s2).free nr', hr', hT'⟩
    · rintro σ H1 ⟨r, ts, v4, v5, rfl, s1, nr, hr1, hT⟩
      rw [List.length_map, LI_len] at hT
      have tl := hT.len
      have wl := wAll_len8 (lw := lw) (hg := hg) n fun j hj => by
        have := hb j (by omega)
        exact ⟨this.1, this.2.2⟩
      have p8 : 8 ^ n ≤ 512 := by
        have : n = 0 ∨ n = 1 ∨ n = 2 ∨ n = 3 := by omega
        rcases this with rfl | rfl | rfl | rfl <;> decide
      refine next_go ?_
      refine ⟨_, rfl, r, rfl, ⟨_, SqL.of hr1⟩, fun D nD => lc_list (K := K) (a := r) (xs := ts.map V.ref) (fun j H' => Same H1 H' ∧ ∃ ts2 : List Addr, H' D = some (.lst (ts2.map V.ref)) ∧ TL H' ts2 (((wAll lw hg n).take j).filter (okC c)))
        ⟨same_upd nD, [], upd_same, TL.nil _⟩ (fun j H' _ ⟨s2, _⟩ => SqL.of (s2 _ _ hr1)) ?_ ?_⟩
      · rintro j x H2 hx ⟨s2, ts2, hD, hT2⟩
        rw [List.getElem?_map] at hx
        obtain ⟨t, et, rfl⟩ := Option.map_eq_some_iff.mp hx
        obtain ⟨wd, ew, ht⟩ := hT.get et
        have tk : (wAll lw hg n).take (j + 1) = (wAll lw hg n).take j ++ [wd] := by
          rw [List.take_add_one, ew]
          rfl
        have ht2 := s2 _ _ ht
        have l4 := hT2.len
        have l5 := List.length_filter_le (okC c) ((wAll lw hg n).take j)
        rw [List.length_take] at l5
        refine ⟨wipe1 _ _ _, ?_⟩
        have go : ∀ b : Bool, okC c wd = b → (if b = true then ∃ acc, H2 D = some (.lst acc) ∧ acc.length < sizeLine ∧ (Same H1 (upd H2 D (.lst (acc ++ [V.ref t]))) ∧ ∃ ts2 : List Addr, (upd H2 D (.lst (acc ++ [V.ref t]))) D = some (.lst (ts2.map V.ref)) ∧ TL (upd H2 D (.lst (acc ++ [V.ref t]))) ts2 (((wAll lw hg n).take (j + 1)).filter (okC c))) else Same H1 H2 ∧ ∃ ts2 : List Addr, H2 D = some (.lst (ts2.map V.ref)) ∧ TL H2 ts2 (((wAll lw hg n).take (j + 1)).filter (okC c))) := by
          intro b eb
          cases b with
          | true =>
            refine iteT ⟨_, hD, small1000 (by rw [List.length_map]; omega), fun c u e => ?_, ts2 ++ [t], ?_, ?_⟩
            · rw [upd_ne (fun z => by rw [z, nD] at e; cases e)]
              exact s2 c u e
            · rw [upd_same, List.map_append]
              rfl
            · rw [tk, List.filter_append, List.filter_cons_of_pos eb]
              exact TL.put (hT2.snoc ht2) (.inl ⟨_, hD⟩)
          | false =>
            refine iteF ⟨s2, ts2, hD, ?_⟩
            rw [tk, List.filter_append, List.filter_cons_of_neg (by rw [eb]; exact Bool.false_ne_true)]
            rw [List.filter_nil, List.append_nil]
            exact hT2
        cases c with
        | none =>
          refine ⟨_, rfl, rfl, _, rfl, iteT ?_⟩
          exact iteT ⟨_, rfl, cast (if_pos rfl) (go true rfl)⟩
        | some c =>
          refine ⟨_, rfl, rfl, _, rfl, iteF ?_⟩
          refine ⟨_, rfl, t, wd, rfl, SqT.of ht2, _, rfl, rfl, _, rfl, ?_⟩
          by_cases e : wd.sum = c
          · rw [show decide (V.int wd.sum = cV (some c)) = true from deqI e]
            exact iteT ⟨_, rfl, cast (if_pos rfl) (go true (decide_eq_true e))⟩
          · rw [show decide (V.int wd.sum = cV (some c)) = false from dneI e]
            exact iteF (cast (if_neg Bool.false_ne_true) (go false (decide_eq_false e)))
      · rintro H2 ⟨s2, ts2, hD, hT2⟩
        rw [List.length_map, tl, List.take_length] at hT2
        exact k D ts2 H2 (s1.trans s2) (s1.free nD) hD hT2
end
end Nu
namespace Nu
open PySem PySem.Spec PyProof.Rows L2
/-! ### the worlds as a list -/
theorem rng_nodup (a b : Int) : (rng a b).Nodup := nodup_blk a _
theorem wAll_nodup {lw hg : Nat → Int} : ∀ n : Nat, (wAll lw hg n).Nodup
  | 0 => List.nodup_cons.mpr ⟨(by simp), List.nodup_nil⟩
  | n + 1 => by
    show ((wAll lw hg n).flatMap fun p => ext1 p (rng (lw n) (hg n))).Nodup
    unfold List.Nodup
    rw [List.pairwise_flatMap]
    refine ⟨fun p hp => ?_, ?_⟩
    · refine nodup_map (rng_nodup _ _) fun x hx y hy e => ?_
      have := List.append_cancel_left e
      injection this
    · refine List.Pairwise.imp ?_ (wAll_nodup n)
      intro p q ne x hx y hy e
      obtain ⟨u, _, rfl⟩ := List.mem_map.mp hx
      obtain ⟨v, _, rfl⟩ := List.mem_map.mp hy
      exact ne (List.append_inj' e rfl).1
def WsOf (n : Nat) (S : WS) (ws : List (List Int)) : Prop := ∀ x, x ∈ ws ↔ ∃ f, x = LI f n ∧ S f
theorem LI_getD {f : Nat → Int} {n k : Nat} (h : k < n) : (LI f n).getD k 0 = f k := by
  rw [List.getD_eq_getElem?_getD, LI_at _ h]
  rfl
theorem WsOf.flt {n : Nat} {S R : WS} {ws : List (List Int)} {p : List Int → Bool} (h : WsOf n S ws) (hp : ∀ f, S f → (p (LI f n) = true ↔ R f)) : WsOf n (fun f => S f ∧ R f) (ws.filter p) := fun x => by
  rw [List.mem_filter, h x]
  constructor
  · rintro ⟨⟨f, rfl, hf⟩, hx⟩
    exact ⟨f, rfl, hf, (hp f hf).mp hx⟩
  · rintro ⟨f, rfl, hf, hR⟩
    exact ⟨⟨f, rfl, hf⟩, (hp f hf).mpr hR⟩
theorem one_list {α : Type} {a : α} {l : List α} (nd : l.Nodup) (h : ∀ x ∈ l, x = a) (ha : a ∈ l) : l = [a] := by
  match l, nd, h, ha with
  | [x], _, h, _ => rw [h x List.mem_cons_self]
  | x :: y :: r, nd, h, _ =>
    have e1 := h x List.mem_cons_self
    have e2 := h y (List.mem_cons_of_mem _ List.mem_cons_self)
    exact absurd (by rw [e1, e2]; exact List.mem_cons_self) (List.nodup_cons.mp nd).1
theorem WsOf.one {n : Nat} {S : WS} {ws : List (List Int)} (h : WsOf n S ws) (nd : ws.Nodup) (sg : Single n S) {f : Nat → Int} (hf : S f) : ws = [LI f n] := by
  refine one_list nd (fun x hx => ?_) ((h _).mpr ⟨f, rfl, hf⟩)
  obtain ⟨g, rfl, hg⟩ := (h x).mp hx
  exact LI_congr fun i hi => sg g f hg hf i hi
theorem split_len {α : Type} (p : α → Bool) : ∀ l : List α, l.length = (l.filter p).length + (l.filter fun x => !p x).length
  | [] => rfl
  | x :: r => by
    have ih := split_len p r
    rw [List.filter_cons, List.filter_cons]
    cases p x
    · show r.length + 1 = (r.filter p).length + ((r.filter fun x => !p x).length + 1)
      omega
    · show r.length + 1 = (r.filter p).length + 1 + (r.filter fun x => !p x).length
      omega
theorem CanW.cnt {n : Nat} : ∀ {d : Nat} {S : WS} {ws : List (List Int)}, CanW n d S → WsOf n S ws → ws.Nodup → ws.length ≤ 2 ^ d := by
  have sg : ∀ {S : WS} {ws : List (List Int)}, Single n S → WsOf n S ws → ws.Nodup → ws.length ≤ 1 := fun {S ws} h hW nd => by
    cases ws with
    | nil => exact Nat.zero_le _
    | cons x r =>
      obtain ⟨f, _, hf⟩ := (hW x).mp List.mem_cons_self
      rw [hW.one nd h hf]
      exact Nat.le_refl _
  intro d
  induction d with
  | zero => exact fun h hW nd => sg h hW nd
  | succ d ih =>
    intro S ws h hW nd
    rcases h with h | ⟨k, m, hk, _, _, hy, hn⟩
    · exact Nat.le_trans (sg h hW nd) Nat.one_le_two_pow
    · have a1 := ih hy (hW.flt (p := fun x => decide (m ≤ x.getD k 0)) fun f _ => by rw [LI_getD hk]; simp) (nd.filter _)
      have a2 := ih hn (hW.flt (p := fun x => !decide (m ≤ x.getD k 0)) fun f _ => by rw [LI_getD hk]; simp) (nd.filter _)
      have e : ws.length = (ws.filter fun x => decide (m ≤ x.getD k 0)).length + (ws.filter fun x => !decide (m ≤ x.getD k 0)).length := by
        exact split_len (fun x => decide (m ≤ x.getD k 0)) ws
      have : 2 ^ (d + 1) = 2 ^ d * 2 := Nat.pow_succ ..
      omega
/-- fewer worlds -/
theorem CanW.sub {n : Nat} : ∀ {d : Nat} {S S' : WS}, CanW n d S → (∀ f, S' f → S f) → CanW n d S'
  | 0, _, _, h, s => fun f g hf hg => h f g (s f hf) (s g hg)
  | d + 1, S, S', h, s => by
    rcases h with h | ⟨k, m, hk, _, _, hy, hn⟩
    · exact .inl fun f g hf hg => h f g (s f hf) (s g hg)
    · by_cases c1 : ∃ f, S' f ∧ m ≤ f k
      · by_cases c2 : ∃ f, S' f ∧ f k < m
        · exact .inr ⟨k, m, hk, c1, c2, CanW.sub hy fun f hf => ⟨s f hf.1, hf.2⟩, CanW.sub hn fun f hf => ⟨s f hf.1, hf.2⟩⟩
        · refine (CanW.sub hy fun f hf => ⟨s f hf, ?_⟩).succ
          by_cases q : m ≤ f k
          · exact q
          · exact absurd ⟨f, hf, by omega⟩ c2
      · refine (CanW.sub hn fun f hf => ⟨s f hf, ?_⟩).succ
        by_cases q : m ≤ f k
        · exact absurd ⟨f, hf, q⟩ c1
        · omega
theorem IsD.sub {n d e : Nat} {S S' : WS} (h : IsD n S d) (h' : IsD n S' e) (s : ∀ f, S' f → S f) : e ≤ d := h'.le (h.1.sub s)
/-! ### the law's own dict -/
abbrev LKey := List Int × List Int
abbrev LEnt := LKey × Addr × Nat
def keyL (a b : List Int) : NestedKey := .tup [.tup (a.map .num), .tup (b.map .num)]
theorem keyL_depth (a b : List Int) : (keyL a b).depth ≤ 8 := by
  unfold keyL
  simp only [NestedKey.depth, NestedKey.depthAll, depthAll_nums]
  decide
theorem keyL_inj {a b c d : List Int} (h : keyL a b = keyL c d) : a = c ∧ b = d := by
  unfold keyL at h
  injection h with h
  injection h with h1 h2
  injection h1 with h1
  injection h2 with h2 _
  injection h2 with h2
  exact ⟨nums_inj h1, nums_inj h2⟩
def entL (e : LEnt) : NEnt := (keyL e.1.1 e.1.2, e.2.1, .int ((e.2.2 : Nat) : Int))
structure KnL (c : Option Int) (kn : List LEnt) : Prop where
  nd : (kn.map (·.1)).Nodup
  ok : ∀ e ∈ kn, ∃ lw hg n, Bx lw hg n c ∧ e.1 = (LI lw n, LI hg n) ∧ IsD n (Wd lw hg n c) e.2.2
theorem KnL.nil {c : Option Int} : KnL c [] := ⟨List.nodup_nil, fun e h => by cases h⟩
theorem LI_eq {f g : Nat → Int} {n m : Nat} (h : LI f n = LI g m) : n = m ∧ ∀ i, i < n → f i = g i := by
  have e : n = m := by
    have := congrArg List.length h
    rw [LI_len, LI_len] at this
    exact this
  subst e
  refine ⟨rfl, fun i hi => ?_⟩
  have : (LI f n)[i]? = (LI g n)[i]? := by rw [h]
  rw [LI_at _ hi, LI_at _ hi] at this
  exact Option.some.inj this
theorem KnL.get {c : Option Int} {kn : List LEnt} (h : KnL c kn) {e : LEnt} (he : e ∈ kn) {lw hg : Nat → Int} {n : Nat} (k : e.1 = (LI lw n, LI hg n)) : IsD n (Wd lw hg n c) e.2.2 := by
  obtain ⟨lw', hg', n', B, k', d⟩ := h.ok e he
  rw [k] at k'
  injection k' with k1 k2
  obtain ⟨e1, e2⟩ := LI_eq k1
  obtain ⟨_, e3⟩ := LI_eq k2
  subst e1
  have : Wd lw hg n c = Wd lw' hg' n c := ws_ext fun f => by
    unfold Wd
    refine and_congr_left fun _ => ?_
    constructor
    · intro q i hi
      rw [← e2 i hi, ← e3 i hi]
      exact q i hi
    · intro q i hi
      rw [e2 i hi, e3 i hi]
      exact q i hi
  rw [this]
  exact d
theorem KnL.snoc {c : Option Int} {kn : List LEnt} (h : KnL c kn) {lw hg : Nat → Int} {n : Nat} {t : Addr} {d : Nat} (B : Bx lw hg n c) (hd : IsD n (Wd lw hg n c) d) (nk : (LI lw n, LI hg n) ∉ kn.map (·.1)) : KnL c (kn ++ [((LI lw n, LI hg n), t, d)]) := by
  refine ⟨?_, fun e he => ?_⟩
  · rw [List.map_append, List.map_cons, List.map_nil]
    refine List.nodup_append.mpr ⟨h.nd, List.nodup_cons.mpr ⟨(by simp), List.nodup_nil⟩, fun x hx y hy z => ?_⟩
    rw [List.mem_singleton.mp hy] at z
    rw [z] at hx
    exact nk hx
  · rcases List.mem_append.mp he with he | he
    · exact h.ok e he
    · rw [List.mem_singleton.mp he]
      exact ⟨lw, hg, n, B, rfl, hd⟩
structure KOkL (k : LKey) : Prop where
  l1 : k.1.length ≤ 3
  l2 : k.2.length ≤ 3
  a1 : ∀ x ∈ k.1, 0 ≤ x ∧ x ≤ 7
  a2 : ∀ x ∈ k.2, 0 ≤ x ∧ x ≤ 7
def encL (k : List Int) : Int := (encO k[0]? * 9 + encO k[1]?) * 9 + encO k[2]?
theorem encO_b {k : List Int} (h : ∀ x ∈ k, 0 ≤ x ∧ x ≤ 7) (i : Nat) : (∀ z, k[i]? = some z → 0 ≤ z) ∧ 0 ≤ encO k[i]? ∧ encO k[i]? ≤ 8 := by
  refine ⟨fun z e => (h z (List.mem_of_getElem? e)).1, ?_⟩
  cases e : k[i]? with
  | none => exact ⟨by decide, by decide⟩
  | some x =>
    have := h x (List.mem_of_getElem? e)
    show 0 ≤ x + 1 ∧ x + 1 ≤ 8
    omega
theorem encL_b {k : List Int} (h : ∀ x ∈ k, 0 ≤ x ∧ x ≤ 7) : 0 ≤ encL k ∧ encL k ≤ 728 := by
  have a0 := encO_b h 0
  have a1 := encO_b h 1
  have a2 := encO_b h 2
  unfold encL
  omega
theorem encL_inj {k k' : List Int} (l : k.length ≤ 3) (l' : k'.length ≤ 3) (h : ∀ x ∈ k, 0 ≤ x ∧ x ≤ 7) (h' : ∀ x ∈ k', 0 ≤ x ∧ x ≤ 7) (e : encL k = encL k') : k = k' := by
  have a0 := encO_b h 0
  have a1 := encO_b h 1
  have a2 := encO_b h 2
  have b0 := encO_b h' 0
  have b1 := encO_b h' 1
  have b2 := encO_b h' 2
  unfold encL at e
  have e0 := encO_inj a0.1 b0.1 (by omega)
  have e1 := encO_inj a1.1 b1.1 (by omega)
  have e2 := encO_inj a2.1 b2.1 (by omega)
  refine List.ext_getElem? fun i => ?_
  match i with
  | 0 => exact e0
  | 1 => exact e1
  | 2 => exact e2
  | i + 3 => rw [List.getElem?_eq_none (by omega), List.getElem?_eq_none (by omega)]
theorem KnL.len {c : Option Int} {kn : List LEnt} (h : KnL c kn) : kn.length ≤ 600000 := by
  have kok : ∀ k ∈ kn.map (·.1), KOkL k := fun k hk => by
    obtain ⟨e, he, rfl⟩ := List.mem_map.mp hk
    obtain ⟨lw, hg, n, B, a, _⟩ := h.ok e he
    have bb : ∀ i, i < n → 0 ≤ lw i ∧ lw i ≤ 7 ∧ 0 ≤ hg i ∧ hg i ≤ 7 := fun i hi => by
      have := B.sm i hi
      have := B.tg.le i hi
      omega
    rw [a]
    refine ⟨by rw [LI_len]; exact B.nn, by rw [LI_len]; exact B.nn, fun x hx => ?_, fun x hx => ?_⟩
    · obtain ⟨i, hi, rfl⟩ := mem_LI.mp hx
      have := bb i hi
      exact ⟨this.1, this.2.1⟩
    · obtain ⟨i, hi, rfl⟩ := mem_LI.mp hx
      have := bb i hi
      exact ⟨this.2.2.1, this.2.2.2⟩
  have nd := nodup_map (f := fun k : LKey => 1 + encL k.1 * 729 + encL k.2) h.nd fun x hx y hy e => by
    have ox := kok x hx
    have oy := kok y hy
    have x1 := encL_b ox.a1
    have x2 := encL_b ox.a2
    have y1 := encL_b oy.a1
    have y2 := encL_b oy.a2
    have e1 : encL x.1 = encL y.1 := by omega
    have e2 : encL x.2 = encL y.2 := by omega
    exact Prod.ext (encL_inj ox.l1 oy.l1 ox.a1 oy.a1 e1) (encL_inj ox.l2 oy.l2 ox.a2 oy.a2 e2)
  have := le_of_nodup 600000 _ nd fun x hx => by
    obtain ⟨k, hk, rfl⟩ := List.mem_map.mp hx
    have o := kok k hk
    have x1 := encL_b o.a1
    have x2 := encL_b o.a2
    show 1 ≤ 1 + encL k.1 * 729 + encL k.2 ∧ 1 + encL k.1 * 729 + encL k.2 ≤ ((600000 : Nat) : Int)
    omega
  simpa using this
theorem atl_key {kn : List LEnt} {k : LKey} {y : NEnt} (q : ((kn.map entL).find? fun x => decide (x.1 = keyL k.1 k.2)) = some y) : ∃ e ∈ kn, e.1 = k ∧ y = entL e := by
  have h1 := List.mem_of_find?_eq_some q
  have h2 := List.find?_some q
  have h2 : y.1 = keyL k.1 k.2 := of_decide_eq_true h2
  obtain ⟨e, he, rfl⟩ := List.mem_map.mp h1
  have h2 : keyL e.1.1 e.1.2 = keyL k.1 k.2 := h2
  have := keyL_inj h2
  exact ⟨e, he, Prod.ext this.1 this.2, rfl⟩
theorem atl_none {kn : List LEnt} {k : LKey} (h : atN (kn.map entL) (keyL k.1 k.2) = none) : k ∉ kn.map (·.1) := by
  intro hk
  obtain ⟨e, he, rfl⟩ := List.mem_map.mp hk
  unfold atN at h
  have h := Option.map_eq_none_iff.mp h
  have := List.find?_eq_none.mp h (entL e) (List.mem_map_of_mem he)
  exact this (decide_eq_true rfl)
theorem atl_some {kn : List LEnt} {k : LKey} {v : V} (h : atN (kn.map entL) (keyL k.1 k.2) = some v) : ∃ e ∈ kn, e.1 = k ∧ v = .int ((e.2.2 : Nat) : Int) := by
  unfold atN at h
  obtain ⟨y, hy, rfl⟩ := Option.map_eq_some_iff.mp h
  obtain ⟨e, he, ek, rfl⟩ := atl_key hy
  exact ⟨e, he, ek, rfl⟩
theorem atl_mem {kn : List LEnt} {k : LKey} (h : k ∈ kn.map (·.1)) : ∃ v, atN (kn.map entL) (keyL k.1 k.2) = some v := by
  cases q : atN (kn.map entL) (keyL k.1 k.2) with
  | none => exact absurd h (atl_none q)
  | some v => exact ⟨v, rfl⟩
theorem putl_new {kn : List LEnt} {k : LKey} {t : Addr} {d : Nat} (h : atN (kn.map entL) (keyL k.1 k.2) = none) : putN (kn.map entL) (keyL k.1 k.2) t (.int ((d : Nat) : Int)) = (kn ++ [(k, t, d)]).map entL := by
  unfold putN
  rw [h, List.map_append]
  rfl
theorem putl_old {kn : List LEnt} {k : LKey} {t : Addr} {D : Nat} {v : V} (h : atN (kn.map entL) (keyL k.1 k.2) = some v) (hv : ∀ e ∈ kn, e.1 = k → e.2.2 = D) : putN (kn.map entL) (keyL k.1 k.2) t (.int ((D : Nat) : Int)) = kn.map entL := by
  unfold putN
  rw [h]
  show List.map _ (kn.map entL) = kn.map entL
  rw [List.map_map]
  refine List.map_congr_left fun e he => ?_
  show (if (entL e).1 = keyL k.1 k.2 then ((entL e).1, (entL e).2.1, V.int ((D : Nat) : Int)) else entL e) = entL e
  split
  · rename_i q
    have q : keyL e.1.1 e.1.2 = keyL k.1 k.2 := q
    have := keyL_inj q
    have hd := hv e he (Prod.ext this.1 this.2)
    rw [← hd]
    rfl
  · rfl
/-- the dict in the heap -/
structure DiL (P : Program) (w : World) (H : Hp) (d : Addr) (c : Option Int) (kn : List LEnt) : Prop where
  di : DicH P w H d (kn.map entL)
  kn : KnL c kn
section
variable {P : Program} {w : World} {H H' : Hp} {d : Addr} {kn : List LEnt} {c : Option Int}
theorem DiL.same (O : DiL P w H d c kn) (s : Same H H') : DiL P w H' d c kn := ⟨O.di.mono (s _ _ O.di.at_) fun c xs e => s c _ e, O.kn⟩
theorem DiL.tup (O : DiL P w H d c kn) (k : Keep [d] H H') : ∀ c xs, H c = some (.tup xs) → H' c = some (.tup xs) := fun c xs e => k c _ e fun z => by
  rw [List.mem_singleton.mp z, O.di.at_] at e
  cases e
theorem DiL.put (O : DiL P w H d c kn) {t : Addr} {D : Nat} {lw hg : Nat → Int} {n : Nat} (B : Bx lw hg n c) (hd : IsD n (Wd lw hg n c) D) (ht : NkV H (keyL (LI lw n) (LI hg n)) (.ref t)) :
    ∃ kn', DiL P w (upd H d (DicO P w d (putN (kn.map entL) (keyL (LI lw n) (LI hg n)) t (.int ((D : Nat) : Int))))) d c kn' ∧ (LI lw n, LI hg n) ∈ kn'.map (·.1) := by
  cases hn : atN (kn.map entL) (keyL (LI lw n) (LI hg n)) with
  | some v =>
    have e := putl_old (k := (LI lw n, LI hg n)) (t := t) (D := D) hn fun e he ek => (O.kn.get he ek).uniq hd
    rw [e]
    have eH : upd H d (DicO P w d (kn.map entL)) = H := funext fun x => by
      by_cases z : x = d
      · rw [z, upd_same, O.di.at_]
      · rw [upd_ne z]
    rw [eH]
    obtain ⟨e, he, ek, _⟩ := atl_some (k := (LI lw n, LI hg n)) hn
    exact ⟨kn, O, List.mem_map.mpr ⟨e, he, ek⟩⟩
  | none =>
    have K := O.kn.snoc (t := t) B hd (atl_none (k := (LI lw n, LI hg n)) hn)
    have st : ∀ c xs, H c = some (.tup xs) → (upd H d (DicO P w d (putN (kn.map entL) (keyL (LI lw n) (LI hg n)) t (.int ((D : Nat) : Int))))) c = some (.tup xs) := fun c xs e => by
      rw [upd_ne (fun z => by rw [z, O.di.at_] at e; cases e)]
      exact e
    rw [putl_new (k := (LI lw n, LI hg n)) hn] at st ⊢
    refine ⟨_, ⟨⟨upd_same, fun x hx => ?_, ?_⟩, K⟩, by rw [List.map_append]; exact List.mem_append.mpr (.inr List.mem_cons_self)⟩
    · rw [List.map_append] at hx
      rcases List.mem_append.mp hx with hx | hx
      · exact ⟨(O.di.key x hx).1.mono st, (O.di.key x hx).2⟩
      · rw [List.map_cons, List.map_nil] at hx
        rw [List.mem_singleton.mp hx]
        exact ⟨ht.mono st, keyL_depth _ _⟩
    · rw [List.length_map]
      have := K.len
      omega
end
end Nu
namespace Nu
open PySem PySem.Spec PyProof.Rows L2
theorem atI_0j {xs : List V} {j : Nat} {v : V} (h : xs[j]? = some v) : atI xs (0 + (j : Int)) = some v := by
  rw [Int.zero_add]
  exact atI_nat h
theorem LI_atV {f : Nat → Int} {n j : Nat} (h : j < n) : ((LI f n).map V.int)[j]? = some (V.int (f j)) := by
  rw [List.getElem?_map, LI_at _ h]
  rfl
section
variable {P : Program} {w : World} {K : PySem.W.Frag} {mg : Str → Option Value} {base : Heap} {a : Ad} {fd : Fd}
def spNarrow : Sp := fun vs H Q _ => ∃ (p q : Addr) (lw hg : Nat → Int) (n : Nat) (c : Option Int), vs = [.ref p, .ref q, cV c] ∧ H p = some (.tup ((LI lw n).map V.int)) ∧ H q = some (.tup ((LI hg n).map V.int)) ∧ n ≤ 1000 ∧
  (badC (sumF lw n) (sumF hg n) c → Q .non H) ∧
  (¬ badC (sumF lw n) (sumF hg n) c → ∀ t p' q' H', Same H H' → H' t = some (.tup [.ref p', .ref q']) → H' p' = some (.tup ((LI (tlF lw hg n c) n).map V.int)) → H' q' = some (.tup ((LI (thF lw hg n c) n).map V.int)) → Q (.ref t) H')
theorem ok_l_narrow (T : Txt K mg a fd) : FnOk P w K mg base CX0 1 a.l_narrow fd.l_narrow ["_law_lows", "_law_highs", "_law_total"] spNarrow := by
  refine T.F_l_narrow.ok sc_l_narrow (fun vs H Q E h => ?_) (fun cdv A outer s0 H vs Q E hr h => ?_)
  · obtain ⟨p, q, lw, hg, n, c, rfl, _⟩ := h
    rfl
  · obtain ⟨p, q, lw, hg, n, c, rfl, hp, hq, hn, k1, k2⟩ := h
    have hu := hu_of hr
    refine ⟨_, (pss_cons (ps_if (pt_cmpR op_isN (pv 2) pe_non (nomark _)) (pss_one (ps_ret (pe_tup (pa_cons (pv 0) (pa_cons (pv 1) pa_nil))))) pss_nil)
    (pss_cons (ps_if (PW.pt (pw_or (pt_cmpR op_lt (pv 2) (pe_callB (cr_sumT rfl) (by rfl) T.n_sum (by decide +kernel) (pa_cons (pv 0) pa_nil)) (nomark _)) (pw_or1 (pt_cmpR op_gt (pv 2) (pe_callB (cr_sumT rfl) (by rfl) T.n_sum (by decide +kernel) (pa_cons (pv 1) pa_nil)) (nomark _))))) (pss_one (ps_ret pe_non)) pss_nil)
    (pss_cons (ps_setLc (i := 3) (own := [("_law_k", 4)]) (g := gName 4) (by rfl) sc_l_narrow.nd rfl rfl (sw_true rfl rfl rfl (by decide +kernel)) (pi_range1 (by rfl) T.n_range (pa_cons (pe_callB call_len_seq (by rfl) T.n_len PySem.boot_len (pa_cons (pv 0) pa_nil)) pa_nil)) (blkOk_by (own := [("_law_k", 4)]) (N := ["_law_lows", "_law_highs", "_law_total", "_law_low_ends", "_law_k", "_law_high_ends"]) (sc := defScope s_l_narrow) (by decide +kernel)) (fun _ _ _ _ _ => pg_name (i := 4) sc_l_narrow.nd rfl (Or.inl rfl)) (fun _ _ _ _ _ => pts_nil) (fun _ _ _ _ _ => (pe_callB (call_max2 rfl) (by rfl) T.n_max (by decide +kernel) (pa_cons (pe_ix (ixT_K (K := K) rfl) (pv 0) (pv 4) (fun _ _ => rfl)) (pa_cons (pe_op op_add (pe_op op_sub (pv 2) (pe_callB (cr_sumT_K (K := K) rfl rfl) (by rfl) T.n_sum (by decide +kernel) (pa_cons (pv 1) pa_nil))) (pe_ix (ixT_K (K := K) rfl) (pv 1) (pv 4) (fun _ _ => rfl))) pa_nil)))))
    (pss_cons (ps_setLc (i := 5) (own := [("_law_k", 4)]) (g := gName 4) (by rfl) sc_l_narrow.nd rfl rfl (sw_true rfl rfl rfl (by decide +kernel)) (pi_range1 (by rfl) T.n_range (pa_cons (pe_callB call_len_seq (by rfl) T.n_len PySem.boot_len (pa_cons (pv 0) pa_nil)) pa_nil)) (blkOk_by (own := [("_law_k", 4)]) (N := ["_law_lows", "_law_highs", "_law_total", "_law_low_ends", "_law_k", "_law_high_ends"]) (sc := defScope s_l_narrow) (by decide +kernel)) (fun _ _ _ _ _ => pg_name (i := 4) sc_l_narrow.nd rfl (Or.inl rfl)) (fun _ _ _ _ _ => pts_nil) (fun _ _ _ _ _ => (pe_callB (call_min2 rfl) (by rfl) T.n_min (by decide +kernel) (pa_cons (pe_ix (ixT_K (K := K) rfl) (pv 1) (pv 4) (fun _ _ => rfl)) (pa_cons (pe_op op_add (pe_op op_sub (pv 2) (pe_callB (cr_sumT_K (K := K) rfl rfl) (by rfl) T.n_sum (by decide +kernel) (pa_cons (pv 0) pa_nil))) (pe_ix (ixT_K (K := K) rfl) (pv 0) (pv 4) (fun _ _ => rfl))) pa_nil)))))
    (pss_one (ps_ret (pe_tup (pa_cons (pe_callTy call_tuple_of (by rfl) T.n_tuple (by decide +kernel) (pa_cons (pv 3) pa_nil)) (pa_cons (pe_callTy call_tuple_of (by rfl) T.n_tuple (by decide +kernel) (pa_cons (pv 5) pa_nil)) pa_nil))))))))), ?_⟩
    rw [← LI_sum, ← LI_sum] at k1 k2
    cases c with
    | none =>
      refine ⟨_, rfl, rfl, _, rfl, iteT ?_⟩
      refine ⟨_, rfl, _, rfl, (by show 2 ≤ sizeLine; decide), fun t nt => ?_⟩
      exact k2 (fun ⟨x, e, _⟩ => by cases e) t p q _ (same_upd nt) upd_same (same_upd nt _ _ hp) (same_upd nt _ _ hq)
    | some c =>
      refine ⟨_, rfl, rfl, _, rfl, iteF ?_⟩
      refine next_go ?_
      refine seq_go ?_
      refine ⟨_, rfl, _, rfl, p, _, rfl, SqT.of hp, _, _, rfl, rfl, _, rfl, ?_⟩
      by_cases c1 : c < (LI lw n).sum
      · rw [decide_eq_true c1]
        refine iteT (iteT ?_)
        exact k1 ⟨c, rfl, .inl c1⟩
      · rw [decide_eq_false c1]
        refine iteF ?_
        refine ⟨_, rfl, _, rfl, q, _, rfl, SqT.of hq, _, _, rfl, rfl, _, rfl, ?_⟩
        by_cases c2 : c > (LI hg n).sum
        · rw [decide_eq_true c2]
          refine iteT ?_
          exact k1 ⟨c, rfl, .inr c2⟩
        · rw [decide_eq_false c2]
          refine iteF ?_
          refine next_go ?_
          refine seq_go ?_
          have k2 := k2 (by
            rintro ⟨x, e, h⟩
            cases e
            exact h.elim c1 c2)
          have lp : ((LI lw n).map V.int).length = n := by rw [List.length_map, LI_len]
          refine ⟨_, rfl, p, _, rfl, .inr (SqT.of hp), _, rfl, by omega, by rw [lp]; omega, fun D nD => ?_⟩
          rw [lp]
          refine lc_range (lo := 0) (n := ((n : Nat) : Int).toNat) (fun j H' => Same H H' ∧ H' D = some (.lst ((LI (tlF lw hg n (some c)) j).map V.int))) ⟨same_upd nD, upd_same⟩ ?_ ?_
          · rintro j H1 hj ⟨s1, hD⟩
            have hj : j < n := by omega
            refine ⟨wipe1 _ _ _, ?_⟩
            dsimp only [tYes]
            rw [if_pos rfl]
            refine ⟨_, rfl, _, rfl, p, _, _, _, rfl, rfl, SqT.of (s1 _ _ hp), atI_0j (LI_atV hj), ?_⟩
            refine ⟨_, rfl, _, rfl, q, _, rfl, SqT.of (s1 _ _ hq), _, _, rfl, rfl, ?_⟩
            refine ⟨_, rfl, _, rfl, q, _, _, _, rfl, rfl, SqT.of (s1 _ _ hq), atI_0j (LI_atV hj), _, _, rfl, rfl, ?_⟩
            refine ⟨_, _, rfl, ?_⟩
            refine ⟨_, hD, small1000 (by rw [List.length_map, LI_len]; omega), fun c' u e => ?_, ?_⟩
            · rw [upd_ne (fun z => by rw [z, nD] at e; cases e)]
              exact s1 c' u e
            · have e1 : tlF lw hg n (some c) j = if c - (LI hg n).sum + hg j > lw j then c - (LI hg n).sum + hg j else lw j := by
                show (if hg j - (sumF hg n - c) > lw j then hg j - (sumF hg n - c) else lw j) = _
                rw [LI_sum, show c - sumF hg n + hg j = hg j - (sumF hg n - c) by omega]
              rw [upd_same, LI_succ, List.map_append, e1]
              rfl
          · rintro H1 ⟨s1, hD⟩
            rw [Int.toNat_natCast] at hD
            refine gName_go ?_
            refine next_go ?_
            refine seq_go ?_
            refine ⟨_, rfl, p, _, rfl, .inr (SqT.of (s1 _ _ hp)), _, rfl, by omega, by rw [lp]; omega, fun D2 nD2 => ?_⟩
            rw [lp]
            refine lc_range (lo := 0) (n := ((n : Nat) : Int).toNat) (fun j H' => Same H1 H' ∧ H' D2 = some (.lst ((LI (thF lw hg n (some c)) j).map V.int))) ⟨same_upd nD2, upd_same⟩ ?_ ?_
            · rintro j H2 hj ⟨s2, hD2⟩
              have hj : j < n := by omega
              have s12 := s1.trans s2
              refine ⟨wipe1 _ _ _, ?_⟩
              dsimp only [tYes]
              rw [if_pos rfl]
              refine ⟨_, rfl, _, rfl, q, _, _, _, rfl, rfl, SqT.of (s12 _ _ hq), atI_0j (LI_atV hj), ?_⟩
              refine ⟨_, rfl, _, rfl, p, _, rfl, SqT.of (s12 _ _ hp), _, _, rfl, rfl, ?_⟩
              refine ⟨_, rfl, _, rfl, p, _, _, _, rfl, rfl, SqT.of (s12 _ _ hp), atI_0j (LI_atV hj), _, _, rfl, rfl, ?_⟩
              refine ⟨_, _, rfl, ?_⟩
              refine ⟨_, hD2, small1000 (by rw [List.length_map, LI_len]; omega), fun c' u e => ?_, ?_⟩
              · rw [upd_ne (fun z => by rw [z, nD2] at e; cases e)]
                exact s2 c' u e
              · have e1 : thF lw hg n (some c) j = if c - (LI lw n).sum + lw j < hg j then c - (LI lw n).sum + lw j else hg j := by
                  show (if lw j + (c - sumF lw n) < hg j then lw j + (c - sumF lw n) else hg j) = _
                  rw [LI_sum, show c - sumF lw n + lw j = lw j + (c - sumF lw n) by omega]
                rw [upd_same, LI_succ, List.map_append, e1]
                rfl
            · rintro H2 ⟨s2, hD2⟩
              rw [Int.toNat_natCast] at hD2
              refine gName_go ?_
              refine next_go ?_
              refine ⟨_, rfl, D, _, rfl, .inl ⟨SqL.of (s2 _ _ hD), fun t1 nt1 => ?_⟩⟩
              have s3 := s2.trans (same_upd (o := .tup ((LI (tlF lw hg n (some c)) n).map V.int)) nt1)
              refine ⟨_, rfl, D2, _, rfl, .inl ⟨SqL.of (same_upd nt1 _ _ hD2), fun t2 nt2 => ?_⟩⟩
              have s4 := s3.trans (same_upd (o := .tup ((LI (thF lw hg n (some c)) n).map V.int)) nt2)
              refine ⟨(by show 2 ≤ sizeLine; decide), fun t nt => ?_⟩
              exact k2 t t1 t2 _ ((s1.trans s4).trans (same_upd nt)) upd_same (same_upd nt _ _ (same_upd nt2 _ _ upd_same)) (same_upd nt _ _ upd_same)
end
end Nu
namespace Nu
open PySem PySem.Spec PyProof.Rows L2
def LkOk (lw hg : Nat → Int) (n k : Nat) (m : Int) : Prop := k < n ∧ lw k + 1 ≤ m ∧ m ≤ hg k
def FdI (lw hg : Nat → Int) (n : Nat) (c : Option Int) (done : Nat → Int → Prop) : Option Nat → Prop
  | none => ∀ k m, LkOk lw hg n k m → ¬ done k m
  | some x => (∃ k m ey en, LkOk lw hg n k m ∧ IsD n (YesW lw hg n c k m) ey ∧ IsD n (NoW lw hg n c k m) en ∧ x = max ey en + 1) ∧ ∀ k m, LkOk lw hg n k m → done k m → ∃ ey en, IsD n (YesW lw hg n c k m) ey ∧ IsD n (NoW lw hg n c k m) en ∧ x ≤ max ey en + 1
def foV : Option Nat → V
  | none => .non
  | some x => .int ((x : Nat) : Int)
def foN (fo : Option Nat) (D : Nat) : Option Nat := match fo with
  | none => some D
  | some x => some (min x D)
section
variable {lw hg : Nat → Int} {n : Nat} {c : Option Int} {done done' : Nat → Int → Prop} {fo : Option Nat}
theorem FdI.congr (h : FdI lw hg n c done fo) (e : ∀ k m, LkOk lw hg n k m → done' k m → done k m) : FdI lw hg n c done' fo := by
  cases fo with
  | none => exact fun k m l d => h k m l (e k m l d)
  | some x => exact ⟨h.1, fun k m l d => h.2 k m l (e k m l d)⟩
theorem FdI.step (h : FdI lw hg n c done fo) {k : Nat} {m : Int} {ey en : Nat} (l : LkOk lw hg n k m) (hy : IsD n (YesW lw hg n c k m) ey) (hn : IsD n (NoW lw hg n c k m) en) (e : ∀ k' m', LkOk lw hg n k' m' → done' k' m' → done k' m' ∨ (k' = k ∧ m' = m)) : FdI lw hg n c done' (foN fo (max ey en + 1)) := by
  cases fo with
  | none =>
    refine ⟨⟨k, m, ey, en, l, hy, hn, rfl⟩, fun k' m' l' d' => ?_⟩
    rcases e k' m' l' d' with d | ⟨rfl, rfl⟩
    · exact absurd d (h k' m' l')
    · exact ⟨ey, en, hy, hn, Nat.le_refl _⟩
  | some x =>
    refine ⟨?_, fun k' m' l' d' => ?_⟩
    · by_cases q : x ≤ max ey en + 1
      · obtain ⟨k0, m0, a, b, l0, h1, h2, h3⟩ := h.1
        exact ⟨k0, m0, a, b, l0, h1, h2, by omega⟩
      · exact ⟨k, m, ey, en, l, hy, hn, by omega⟩
    · rcases e k' m' l' d' with d | ⟨rfl, rfl⟩
      · obtain ⟨a, b, h1, h2, h3⟩ := h.2 k' m' l' d
        exact ⟨a, b, h1, h2, by omega⟩
      · exact ⟨ey, en, hy, hn, by omega⟩
theorem FdI.fin (h : FdI lw hg n c (fun _ _ => True) fo) (B : Bx lw hg n c) : IsD n (Wd lw hg n c) (fo.getD 0) := by
  cases fo with
  | none =>
    refine B.flat ?_
    cases e : lks lw hg n with
    | nil => rfl
    | cons x r =>
      obtain ⟨k, m, hk, h1, h2, _⟩ := mem_lks.mp (show x ∈ lks lw hg n by rw [e]; exact List.mem_cons_self)
      exact absurd trivial (h k m ⟨hk, h1, h2⟩)
  | some x =>
    obtain ⟨k, m, ey, en, ⟨hk, h1, h2⟩, hy, hn, rfl⟩ := h.1
    obtain ⟨f, hf, ef⟩ := (B.tg.at_ hk m).mpr ⟨by omega, h2⟩
    obtain ⟨g, hg', eg⟩ := (B.tg.at_ hk (m - 1)).mpr ⟨by omega, by omega⟩
    refine IsD.step hk ⟨f, hf, by omega⟩ ⟨g, hg', by omega⟩ hy hn rfl fun k' m' hk' ⟨u, hu, hu'⟩ ⟨v, hv, hv'⟩ => ?_
    have b1 := (hu.1 k' hk').2
    have b2 := (hv.1 k' hk').1
    obtain ⟨a, b, i1, i2, i3⟩ := h.2 k' m' ⟨hk', by omega, by omega⟩ trivial
    exact ⟨a, b, i1, i2, by omega⟩
end
theorem min_int (x M : Nat) : (if (1 : Int) + ((M : Nat) : Int) < ((x : Nat) : Int) then (1 : Int) + ((M : Nat) : Int) else ((x : Nat) : Int)) = ((min x (M + 1) : Nat) : Int) := by
  split <;> omega
end Nu
namespace Nu
open PySem PySem.Spec PyProof.Rows L2
theorem at_put {kvs : List NEnt} {k k' : NestedKey} {a : Addr} {v : V} : atN (putN kvs k a v) k' = if k' = k then some v else atN kvs k' := by
  unfold putN
  by_cases h : (atN kvs k).isSome
  · rw [if_pos h]
    unfold atN
    rw [List.find?_map]
    have e : (fun x : NEnt => decide (x.1 = k')) ∘ (fun x : NEnt => if x.1 = k then (x.1, x.2.1, v) else x) = fun x => decide (x.1 = k') := funext fun x => by
      show decide ((if x.1 = k then (x.1, x.2.1, v) else x).1 = k') = _
      split <;> rfl
    rw [e, Option.map_map]
    by_cases c : k' = k
    · subst c
      rw [if_pos rfl]
      cases q : kvs.find? (fun x => decide (x.1 = k')) with
      | none =>
        unfold atN at h
        rw [q] at h
        cases h
      | some y =>
        have h2 := List.find?_some q
        have h2 : y.1 = k' := of_decide_eq_true h2
        show some (if y.1 = k' then (y.1, y.2.1, v) else y).2.2 = some v
        rw [if_pos h2]
    · rw [if_neg c]
      cases q : kvs.find? (fun x => decide (x.1 = k')) with
      | none => rfl
      | some y =>
        have h2 := List.find?_some q
        have h2 : y.1 = k' := of_decide_eq_true h2
        show some (if y.1 = k then (y.1, y.2.1, v) else y).2.2 = some y.2.2
        rw [if_neg (fun z => c (h2.symm.trans z))]
  · rw [if_neg h]
    unfold atN
    rw [List.find?_append]
    by_cases c : k' = k
    · subst c
      rw [if_pos rfl]
      cases q : kvs.find? (fun x => decide (x.1 = k')) with
      | none =>
        show ([(k', a, v)].find? fun x => decide (x.1 = k')).map (·.2.2) = some v
        simp [List.find?_cons]
      | some y =>
        unfold atN at h
        rw [q] at h
        exact absurd rfl h
    · rw [if_neg c]
      cases q : kvs.find? (fun x => decide (x.1 = k')) with
      | none =>
        show ([(k, a, v)].find? fun x => decide (x.1 = k')).map (·.2.2) = none
        simp [List.find?_cons, Ne.symm c]
      | some y => rfl
theorem put_len {kvs : List NEnt} {k : NestedKey} {a : Addr} {v : V} : (putN kvs k a v).length ≤ kvs.length + 1 := by
  unfold putN
  split
  · rw [List.length_map]
    omega
  · rw [List.length_append]
    exact Nat.le_refl _
/-! ### rows of a paper -/
abbrev RW := LKey × Int
def RwH (H : Hp) (t : Addr) (x : RW) : Prop := ∃ p q, H t = some (.tup [.ref p, .ref q, .int x.2]) ∧ H p = some (.tup (x.1.1.map V.int)) ∧ H q = some (.tup (x.1.2.map V.int))
structure RwsH (H : Hp) (ts : List Addr) (rs : List RW) : Prop where
  len : ts.length = rs.length
  at_ : ∀ (i : Nat) (t : Addr) (x : RW), ts[i]? = some t → rs[i]? = some x → RwH H t x
structure RwOk (x : RW) : Prop where
  l1 : x.1.1.length ≤ 1000
  l2 : x.1.2.length ≤ 1000
  o1 : ∀ y ∈ x.1.1, IntOk y
  o2 : ∀ y ∈ x.1.2, IntOk y
theorem RwH.mono {H H' : Hp} {t : Addr} {x : RW} (h : RwH H t x) (s : ∀ c xs, H c = some (.tup xs) → H' c = some (.tup xs)) : RwH H' t x := by
  obtain ⟨p, q, h1, h2, h3⟩ := h
  exact ⟨p, q, s _ _ h1, s _ _ h2, s _ _ h3⟩
theorem RwsH.mono {H H' : Hp} {ts : List Addr} {rs : List RW} (h : RwsH H ts rs) (s : ∀ c xs, H c = some (.tup xs) → H' c = some (.tup xs)) : RwsH H' ts rs := ⟨h.len, fun i t x a b => (h.at_ i t x a b).mono s⟩
theorem RwsH.same {H H' : Hp} {ts : List Addr} {rs : List RW} (h : RwsH H ts rs) (s : Same H H') : RwsH H' ts rs := h.mono fun c xs e => s c _ e
theorem RwsH.get {H : Hp} {ts : List Addr} {rs : List RW} (h : RwsH H ts rs) {i : Nat} {t : Addr} (e : ts[i]? = some t) : ∃ x, rs[i]? = some x ∧ RwH H t x := by
  have hi : i < rs.length := by
    rw [← h.len]
    exact (List.getElem?_eq_some_iff.mp e).1
  exact ⟨_, List.getElem?_eq_getElem hi, h.at_ i t _ e (List.getElem?_eq_getElem hi)⟩
def hw (x : RW) (c : Option Int) : Prop := isB (lof x.1.1) (lof x.1.2) x.1.1.length x.1.2.length ∧ ¬ badC (sumF (lof x.1.1) x.1.1.length) (sumF (lof x.1.2) x.1.1.length) c
theorem lof_int {xs : List Int} (h : ∀ y ∈ xs, IntOk y) : ∀ i, i < xs.length → IntOk (lof xs i) := fun i hi => by
  rw [lof_at (List.getElem?_eq_getElem hi)]
  exact h _ (List.getElem_mem hi)
/-- what the try's clause must know of the two classes -/
structure ExB (K : PySem.W.Frag) (a : Ad) : Prop where
  b : PySem.W.exmAny K (.ref a.NoBox) [.ref a.NoBox, .ref a.NoWorld] = some true
  w : PySem.W.exmAny K (.ref a.NoWorld) [.ref a.NoBox, .ref a.NoWorld] = some true
section
variable {P : Program} {w : World} {K : PySem.W.Frag} {mg : Str → Option Value} {base : Heap} {a : Ad} {fd : Fd}
def spHasW : Sp := fun vs H Q _ => ∃ (t : Addr) (x : RW) (c : Option Int), vs = [.ref t, cV c] ∧ RwH H t x ∧ RwOk x ∧ cOk c ∧ (hw x c → ∀ H', Same H H' → Q (.bl true) H') ∧ (¬ hw x c → ∀ H', Same H H' → Q (.bl false) H')
theorem ok_has_worlds (T : Txt K mg a fd) (EX : ExB K a) : FnOk P w K mg base CX0 5 a.has_worlds fd.has_worlds ["row", "total"] spHasW := by
  have G_tight := ok_tight (P := P) (w := w) (base := base) T
  refine T.F_has_worlds.ok sc_has_worlds (fun vs H Q E h => ?_) (fun cdv A outer s0 H vs Q E hr h => ?_)
  · obtain ⟨t, x, c, rfl, _⟩ := h
    rfl
  · obtain ⟨t, x, c, rfl, ⟨p, q, ht, hp, hq⟩, ok, oc, k1, k2⟩ := h
    refine ⟨_, (pss_cons (ps_asg (pv 0) (pg_tup (by rfl) (pgs_cons (pg_name (i := 2) sc_has_worlds.nd rfl (Or.inl rfl)) (pgs_cons (pg_name (i := 3) sc_has_worlds.nd rfl (Or.inl rfl)) (pgs_cons (pg_name (i := 4) sc_has_worlds.nd rfl (Or.inl rfl)) pgs_nil)))))
    (pss_cons (ps_try_two rfl rfl rfl T.x_NoBox.g rfl T.x_NoWorld.g (by decide) (by decide) takes0 (fun W pn xe tk _ => (pss_one (ps_expr (pe_callS G_tight (hr.mono (by decide)) (by rfl) T.g_tight T.F_tight.kp T.b_tight (fun σ => passAt tk σ) (pa_cons (pe_tup (pa_cons (pv 2) (pa_cons (pv 3) (pa_cons (pv 1) pa_nil)))) pa_nil)))))
      (fun a oe cls d pn hz hf => (pss_one (ps_ret pe_bl))))
    (pss_one (ps_ret pe_bl)))), ?_⟩
    refine ⟨_, rfl, t, _, rfl, SqT.of ht, rfl, _, _, rfl, _, _, rfl, _, _, rfl, rfl, ?_⟩
    try dsimp only
    refine seq_go ?_
    refine ⟨_, rfl, _, rfl, _, rfl, (by show 3 ≤ sizeLine; decide), fun b nb => ?_⟩
    have s1 : Same H (upd H b (.tup [V.ref p, V.ref q, cV c])) := same_upd nb
    have yes : ∀ H', Same (upd H b (.tup [V.ref p, V.ref q, cV c])) H' → ¬ hw x c → Q (.bl false) H' := fun H' s n => k2 n H' (s1.trans s)
    refine ⟨.ref b, lof x.1.1, lof x.1.2, x.1.1.length, x.1.2.length, c, rfl, ⟨b, p, q, rfl, upd_same, ?_, ?_⟩, ⟨ok.l1, ok.l2, lof_int ok.o1, lof_int ok.o2, oc⟩, fun nB H' s => ?_, fun ib bad H' s => ?_, fun ib nb2 v' H' s B => ?_⟩
    · rw [LI_lof]
      exact s1 _ _ hp
    · rw [LI_lof]
      exact s1 _ _ hq
    · refine ⟨true, EX.b, fun _ a' na => ?_, fun z => by cases z⟩
      exact yes H' s fun z => nB z.1
    · refine ⟨true, EX.w, fun _ a' na => ?_, fun z => by cases z⟩
      exact yes H' s fun z => z.2 bad
    · exact k1 ⟨ib, nb2⟩ H' (s1.trans s)
end
end Nu
set_option maxRecDepth 700000
namespace Nu
open PySem PySem.Spec PyProof.Rows L2
def ClAt (rs : List RW) (k : LKey) : Option V → Prop
  | none => ∀ x ∈ rs, x.1 ≠ k
  | some v => ∃ m : Int, v = .int m ∧ (∃ x ∈ rs, x.1 = k ∧ x.2 = m) ∧ ∀ x ∈ rs, x.1 = k → x.2 ≤ m
structure ClD (P : Program) (w : World) (H : Hp) (d : Addr) (rs : List RW) (kvs : List NEnt) : Prop where
  di : DicH P w H d kvs
  le : kvs.length ≤ rs.length
  at_ : ∀ k : LKey, ClAt rs k (atN kvs (keyL k.1 k.2))
theorem DicH.same' {P : Program} {w : World} {H H' : Hp} {d : Addr} {kvs : List NEnt} (h : DicH P w H d kvs) (s : Same H H') : DicH P w H' d kvs := h.mono (s _ _ h.at_) fun c xs e => s c _ e
theorem ClD.same {P : Program} {w : World} {H H' : Hp} {d : Addr} {rs : List RW} {kvs : List NEnt} (h : ClD P w H d rs kvs) (s : Same H H') : ClD P w H' d rs kvs := ⟨h.di.same' s, h.le, h.at_⟩
def clm (rs : List RW) (k : LKey) (e : Int) : Prop := e ≤ 0 ∨ ∃ x ∈ rs, x.1 = k ∧ e ≤ x.2
theorem nk_key {H : Hp} {t p q : Addr} {ls hs : List Int} (ht : H t = some (.tup [.ref p, .ref q])) (hp : H p = some (.tup (ls.map V.int))) (hq : H q = some (.tup (hs.map V.int))) : NkV H (keyL ls hs) (.ref t) := .tup ht (.cons (.tup hp (nk_nums _)) (.cons (.tup hq (nk_nums _)) .nil))
section
variable {P : Program} {w : World} {K : PySem.W.Frag} {mg : Str → Option Value} {base : Heap} {a : Ad} {fd : Fd}
def spGreatest (P : Program) (w : World) : Sp := fun vs H Q _ => ∃ (r : Addr) (ts : List Addr) (rs : List RW), vs = [.ref r] ∧ H r = some (.lst (ts.map V.ref)) ∧ RwsH H ts rs ∧ rs.length ≤ 700000 ∧ ∀ d kvs H', H d = none → Same H H' → ClD P w H' d rs kvs → Q (.ref d) H'
theorem ok_greatest_claims (T : Txt K mg a fd) : FnOk P w K mg base CX0 1 a.greatest_claims fd.greatest_claims ["rows"] (spGreatest P w) := by
  refine T.F_greatest_claims.ok sc_greatest_claims (fun vs H Q E h => ?_) (fun cdv A outer s0 H vs Q E hr h => ?_)
  · obtain ⟨r, ts, rs, rfl, _⟩ := h
    rfl
  · obtain ⟨r, ts, rs, rfl, hr0, hT, hl, k⟩ := h
    refine ⟨_, (pss_cons (ps_set (i := 1) sc_greatest_claims.nd rfl (Or.inl rfl) pe_dnewN)
    (pss_cons (ps_for PassesOwn.never rfl (pi_list (pv 0)) (pg_tup (by rfl) (pgs_cons (pg_name (i := 2) sc_greatest_claims.nd rfl (Or.inl rfl)) (pgs_cons (pg_name (i := 3) sc_greatest_claims.nd rfl (Or.inl rfl)) (pgs_cons (pg_name (i := 4) sc_greatest_claims.nd rfl (Or.inl rfl)) pgs_nil))))
      (pss_one (ps_dputN hr.units (pv 1) (pe_tup (pa_cons (pv 2) (pa_cons (pv 3) pa_nil))) (pe_callB (call_max2 rfl) (by rfl) T.n_max (by decide +kernel) (pa_cons (pv 4) (pa_cons (pe_dget2N hr.units (pv 1) (pe_tup (pa_cons (pv 2) (pa_cons (pv 3) pa_nil))) (pv 4) ⟨rfl, rfl, rfl, rfl⟩) pa_nil))) rfl)))
    (pss_one (ps_ret (pv 1))))), ?_⟩
    intro d nd
    refine gName_go ?_
    try dsimp only
    refine seq_go ?_
    have rd : r ≠ d := fun z => by rw [← z, hr0] at nd; cases nd
    refine ⟨_, rfl, r, rfl, ⟨_, SqL.of (by rw [upd_ne rd]; exact hr0)⟩, ?_⟩
    refine for_list (K := K) (a := r) (xs := ts.map V.ref) (fun j σ H' => ∃ (kvs : List NEnt) (v2 v3 v4 : Option V), σ = [some (.ref r), some (.ref d), v2, v3, v4] ∧ Same H H' ∧ ClD P w H' d (rs.take j) kvs)
      ⟨[], none, none, none, rfl, same_upd nd, ⟨upd_same, fun x hx => (by cases hx), Nat.zero_le _⟩, Nat.zero_le _, fun k => fun x hx => (by cases hx)⟩ (fun j σ H' _ ⟨_, _, _, _, _, s, _⟩ => SqL.of (s _ _ hr0)) ?_ ?_
    · rintro j x σ H1 hx ⟨kvs, v2, v3, v4, rfl, s1, C⟩
      obtain ⟨t, et, rfl⟩ : ∃ t, ts[j]? = some t ∧ x = V.ref t := by
        rw [List.getElem?_map] at hx
        obtain ⟨t, e1, e2⟩ := Option.map_eq_some_iff.mp hx
        exact ⟨t, e1, e2.symm⟩
      obtain ⟨x, ex, p, q, ht, hp, hq⟩ := (hT.same s1).get et
      have hj : j < rs.length := (List.getElem?_eq_some_iff.mp ex).1
      refine ⟨t, _, rfl, SqT.of ht, rfl, _, _, rfl, _, _, rfl, _, _, rfl, rfl, ?_⟩
      -- the value
      refine ⟨_, rfl, _, rfl, d, kvs, rfl, C.di, _, rfl, _, rfl, (by show 2 ≤ sizeLine; decide), fun u nu => ?_⟩
      have s2 : Same H1 (upd H1 u (.tup [V.ref p, V.ref q])) := same_upd nu
      have C2 := C.same s2
      have hk := nk_key (upd_same (H := H1) (a := u) (o := .tup [V.ref p, V.ref q])) (s2 _ _ hp) (s2 _ _ hq)
      refine ⟨_, rfl, u, kvs, keyL x.1.1 x.1.2, rfl, C2.di, hk, keyL_depth _ _, ?_⟩
      have tk := take_snoc ex
      have fin : ∀ M : Int, (∀ y ∈ rs.take j, y.1 = x.1 → y.2 ≤ M) → x.2 ≤ M → (x.2 = M ∨ ∃ y ∈ rs.take j, y.1 = x.1 ∧ y.2 = M) → ∀ t2, (upd H1 u (.tup [V.ref p, V.ref q])) t2 = none →
          ∃ (kvs' : List NEnt) (v2 v3 v4 : Option V), [some (V.ref r), some (V.ref d), some (V.ref p), some (V.ref q), some (V.int x.2)] = [some (V.ref r), some (V.ref d), v2, v3, v4] ∧ Same H (upd (upd (upd H1 u (.tup [V.ref p, V.ref q])) t2 (.tup [V.ref p, V.ref q])) d (DicO P w d (putN kvs (keyL x.1.1 x.1.2) t2 (.int M)))) ∧ ClD P w (upd (upd (upd H1 u (.tup [V.ref p, V.ref q])) t2 (.tup [V.ref p, V.ref q])) d (DicO P w d (putN kvs (keyL x.1.1 x.1.2) t2 (.int M)))) d (rs.take (j + 1)) kvs' := fun M h1 h2 h3 t2 n2 => by
        have s3 : Same (upd H1 u (.tup [V.ref p, V.ref q])) (upd (upd H1 u (.tup [V.ref p, V.ref q])) t2 (.tup [V.ref p, V.ref q])) := same_upd n2
        have C3 := C2.same s3
        have hk3 := nk_key (upd_same (H := upd H1 u (.tup [V.ref p, V.ref q])) (a := t2) (o := .tup [V.ref p, V.ref q])) (s3 _ _ (s2 _ _ hp)) (s3 _ _ (s2 _ _ hq))
        generalize upd (upd H1 u (.tup [V.ref p, V.ref q])) t2 (.tup [V.ref p, V.ref q]) = H3 at s3 C3 hk3 ⊢
        have st : ∀ c xs, H3 c = some (.tup xs) → (upd H3 d (DicO P w d (putN kvs (keyL x.1.1 x.1.2) t2 (.int M)))) c = some (.tup xs) := fun c xs e => by
          rw [upd_ne (fun z => by rw [z, C3.di.at_] at e; cases e)]
          exact e
        refine ⟨putN kvs (keyL x.1.1 x.1.2) t2 (.int M), _, _, _, rfl, fun c u e => ?_, ⟨upd_same, fun y hy => ?_, ?_⟩, ?_, fun k' => ?_⟩
        · rw [upd_ne (fun z => by rw [z, nd] at e; cases e)]
          exact s3 _ _ (s2 _ _ (s1 _ _ e))
        · unfold putN at hy
          split at hy
          · obtain ⟨y', hy', rfl⟩ := List.mem_map.mp hy
            have := C3.di.key y' hy'
            split
            · exact ⟨this.1.mono st, this.2⟩
            · exact ⟨this.1.mono st, this.2⟩
          · rcases List.mem_append.mp hy with hy | hy
            · have := C3.di.key y hy
              exact ⟨this.1.mono st, this.2⟩
            · rw [List.mem_singleton.mp hy]
              exact ⟨hk3.mono st, keyL_depth _ _⟩
        · have := put_len (kvs := kvs) (k := keyL x.1.1 x.1.2) (a := t2) (v := .int M)
          have := C.le
          rw [List.length_take] at this
          omega
        · have := put_len (kvs := kvs) (k := keyL x.1.1 x.1.2) (a := t2) (v := .int M)
          have := C.le
          rw [List.length_take] at this ⊢
          omega
        · rw [at_put, tk]
          by_cases e : keyL k'.1 k'.2 = keyL x.1.1 x.1.2
          · rw [if_pos e]
            have := keyL_inj e
            have ek : x.1 = k' := (Prod.ext this.1 this.2).symm
            refine ⟨M, rfl, ?_, fun y hy e2 => ?_⟩
            · rcases h3 with h3 | ⟨y, hy, e1, e2⟩
              · exact ⟨x, List.mem_append.mpr (.inr List.mem_cons_self), ek, h3⟩
              · exact ⟨y, List.mem_append.mpr (.inl hy), e1.trans ek, e2⟩
            · rcases List.mem_append.mp hy with hy | hy
              · exact h1 y hy (e2.trans ek.symm)
              · rw [List.mem_singleton.mp hy]
                exact h2
          · rw [if_neg e]
            have ne : x.1 ≠ k' := fun z => e (by rw [← z])
            have := C.at_ k'
            cases q : atN kvs (keyL k'.1 k'.2) with
            | none =>
              rw [q] at this
              intro y hy
              rcases List.mem_append.mp hy with hy | hy
              · exact this y hy
              · rw [List.mem_singleton.mp hy]
                exact ne
            | some v =>
              rw [q] at this
              obtain ⟨m, e1, ⟨y, hy, e2, e3⟩, e4⟩ := this
              refine ⟨m, e1, ⟨y, List.mem_append.mpr (.inl hy), e2, e3⟩, fun z hz e5 => ?_⟩
              rcases List.mem_append.mp hz with hz | hz
              · exact e4 z hz e5
              · rw [List.mem_singleton.mp hz] at e5
                exact absurd e5 ne
      have hc := C.at_ x.1
      cases qq : atN kvs (keyL x.1.1 x.1.2) with
      | none =>
        rw [qq] at hc
        refine ⟨x.2, x.2, rfl, ?_⟩
        rw [if_neg (show ¬ x.2 > x.2 by omega)]
        refine ⟨_, rfl, _, rfl, _, rfl, (by show 2 ≤ sizeLine; decide), fun t2 n2 => ?_⟩
        have s3 : Same (upd H1 u (.tup [V.ref p, V.ref q])) (upd (upd H1 u (.tup [V.ref p, V.ref q])) t2 (.tup [V.ref p, V.ref q])) := same_upd n2
        refine ⟨d, t2, kvs, keyL x.1.1 x.1.2, rfl, rfl, (C2.same s3).di, nk_key upd_same (s3 _ _ (s2 _ _ hp)) (s3 _ _ (s2 _ _ hq)), keyL_depth _ _, ?_⟩
        exact fin x.2 (fun y hy e => absurd e (hc y hy)) (Int.le_refl _) (.inl rfl) t2 n2
      | some v =>
        rw [qq] at hc
        obtain ⟨m, rfl, ⟨y, hy, e1, e2⟩, e3⟩ := hc
        refine ⟨x.2, m, rfl, ?_⟩
        refine ⟨_, rfl, _, rfl, _, rfl, (by show 2 ≤ sizeLine; decide), fun t2 n2 => ?_⟩
        have s3 : Same (upd H1 u (.tup [V.ref p, V.ref q])) (upd (upd H1 u (.tup [V.ref p, V.ref q])) t2 (.tup [V.ref p, V.ref q])) := same_upd n2
        refine ⟨d, t2, kvs, keyL x.1.1 x.1.2, rfl, rfl, (C2.same s3).di, nk_key upd_same (s3 _ _ (s2 _ _ hp)) (s3 _ _ (s2 _ _ hq)), keyL_depth _ _, ?_⟩
        refine fin _ (fun z hz e => ?_) ?_ ?_ t2 n2
        · have := e3 z hz e
          split <;> omega
        · split <;> omega
        · split
          · exact .inr ⟨y, hy, e1, e2⟩
          · exact .inl rfl
    · rintro σ H1 ⟨kvs, v2, v3, v4, rfl, s1, C⟩
      rw [List.length_map, hT.len, List.take_length] at C
      exact ⟨_, rfl, k d kvs H1 nd s1 C⟩
def spIsClaimed (P : Program) (w : World) : Sp := fun vs H Q _ => ∃ (p q d : Addr) (ls hs : List Int) (e : Int) (rs : List RW) (kvs : List NEnt), vs = [.ref p, .ref q, .int e, .ref d] ∧ H p = some (.tup (ls.map V.int)) ∧ H q = some (.tup (hs.map V.int)) ∧ ClD P w H d rs kvs ∧
  (clm rs (ls, hs) e → ∀ H', Same H H' → Q (.bl true) H') ∧ (¬ clm rs (ls, hs) e → ∀ H', Same H H' → Q (.bl false) H')
theorem ok_is_claimed (T : Txt K mg a fd) : FnOk P w K mg base CX0 1 a.is_claimed fd.is_claimed ["lows", "highs", "depth", "claims"] (spIsClaimed P w) := by
  refine T.F_is_claimed.ok sc_is_claimed (fun vs H Q E h => ?_) (fun cdv A outer s0 H vs Q E hr h => ?_)
  · obtain ⟨p, q, d, ls, hs, e, rs, kvs, rfl, _⟩ := h
    rfl
  · obtain ⟨p, q, d, ls, hs, e, rs, kvs, rfl, hp, hq, C, k1, k2⟩ := h
    refine ⟨_, (pss_one (ps_ret (pe_or (pe_cmpR op_le (pv 2) pe_int (nomark _)) (pe_one (pe_cmpR op_ge (pe_dget2N hr.units (pv 3) (pe_tup (pa_cons (pv 0) (pa_cons (pv 1) pa_nil))) pe_int ⟨rfl, rfl, rfl, rfl⟩) (pv 2) (nomark _)))))), ?_⟩
    refine ⟨_, rfl, _, _, rfl, rfl, _, rfl, ?_⟩
    by_cases c0 : e ≤ 0
    · rw [decide_eq_true c0]
      refine iteT ?_
      exact k1 (.inl c0) H (Same.refl _)
    · rw [decide_eq_false c0]
      refine iteF ?_
      refine ⟨_, rfl, d, kvs, rfl, C.di, _, rfl, _, rfl, (by show 2 ≤ sizeLine; decide), fun u nu => ?_⟩
      have s2 : Same H (upd H u (.tup [V.ref p, V.ref q])) := same_upd nu
      refine ⟨u, kvs, keyL ls hs, rfl, (C.same s2).di, nk_key upd_same (s2 _ _ hp) (s2 _ _ hq), keyL_depth _ _, ?_⟩
      have hc := C.at_ (ls, hs)
      have hc : ClAt rs (ls, hs) (atN kvs (keyL ls hs)) := hc
      cases q : atN kvs (keyL ls hs) with
      | none =>
        rw [q] at hc
        refine ⟨_, rfl, 0, e, rfl, rfl, ?_⟩
        have := k2 (fun z => z.elim c0 fun ⟨x, hx, e1, _⟩ => hc x hx e1) _ s2
        rw [← decide_eq_false (show ¬ e ≤ 0 from c0)] at this
        exact this
      | some v =>
        rw [q] at hc
        obtain ⟨m, rfl, ⟨y, hy, e1, e2⟩, e3⟩ := hc
        refine ⟨_, rfl, m, e, rfl, rfl, ?_⟩
        by_cases c1 : m ≥ e
        · have := k1 (.inr ⟨y, hy, e1, by omega⟩) _ s2
          rw [← decide_eq_true (show e ≤ m from c1)] at this
          exact this
        · have := k2 (fun z => z.elim c0 fun ⟨x, hx, e4, e5⟩ => by
            have := e3 x hx e4
            omega) _ s2
          rw [← decide_eq_false (show ¬ e ≤ m from c1)] at this
          exact this
end
end Nu
set_option maxRecDepth 700000
namespace Nu
open PySem PySem.Spec PyProof.Rows L2
noncomputable def tr (p : Prop) : Bool := @decide p (Classical.propDecidable p)
theorem tr_iff {p : Prop} : tr p = true ↔ p := ⟨fun h => @of_decide_eq_true p (Classical.propDecidable p) h, fun h => @decide_eq_true p (Classical.propDecidable p) h⟩
theorem tr_t {p : Prop} (h : p) : tr p = true := tr_iff.mpr h
theorem tr_f {p : Prop} (h : ¬ p) : tr p = false := by
  cases e : tr p with
  | false => rfl
  | true => exact absurd (tr_iff.mp e) h
/-- a list of truths -/
def BlP {α : Type} (H0 : Hp) (D : Addr) (f : α → Bool) (xs : List α) (j : Nat) (H' : Hp) : Prop := Same H0 H' ∧ H' D = some (.lst (((xs.take j).map f).map V.bl))
theorem BlP.start {α : Type} {H0 : Hp} {D : Addr} {f : α → Bool} {xs : List α} (nD : H0 D = none) : BlP H0 D f xs 0 (upd H0 D (.lst [])) := ⟨same_upd nD, upd_same⟩
theorem BlP.step {α : Type} {H0 H' H2 : Hp} {D : Addr} {f : α → Bool} {xs : List α} {j : Nat} {x : α} (h : BlP H0 D f xs j H') (nD : H0 D = none) (s : Same H' H2) (e : xs[j]? = some x) (hl : xs.length ≤ 700000) :
    ∃ acc, H2 D = some (.lst acc) ∧ acc.length < sizeLine ∧ BlP H0 D f xs (j + 1) (upd H2 D (.lst (acc ++ [V.bl (f x)]))) := by
  obtain ⟨s0, hD⟩ := h
  refine ⟨_, s _ _ hD, ?_, fun c u e' => ?_, ?_⟩
  · rw [List.length_map, List.length_map, List.length_take, sizeLine_eq]
    omega
  · rw [upd_ne (fun z => by rw [z, nD] at e'; cases e')]
    exact s _ _ (s0 c u e')
  · rw [upd_same, take_snoc e, List.map_append, List.map_append]
    rfl
theorem BlP.all {α : Type} {H0 H' : Hp} {D : Addr} {f : α → Bool} {xs : List α} (h : BlP H0 D f xs xs.length H') : Same H0 H' ∧ H' D = some (.lst ((xs.map f).map V.bl)) := by
  obtain ⟨s0, hD⟩ := h
  rw [List.take_length] at hD
  exact ⟨s0, hD⟩
theorem all_id {α : Type} {f : α → Bool} {xs : List α} : (xs.map f).all id = true ↔ ∀ x ∈ xs, f x = true := by
  rw [List.all_eq_true]
  constructor
  · intro h x hx
    exact h _ (List.mem_map_of_mem hx)
  · intro h y hy
    obtain ⟨x, hx, rfl⟩ := List.mem_map.mp hy
    exact h x hx
def boxD (ls hs : List Int) (c : Option Int) : PyData := .tuple [dw ls, dw hs, dV (cV c)]
theorem fl_cV (c : Option Int) : flS (cV c) = true := by
  cases c <;> rfl
theorem dp_box {K : PySem.W.Frag} {H : Hp} {b p q : Addr} {ls hs : List Int} {c : Option Int} (hb : H b = some (.tup [.ref p, .ref q, cV c])) (hp : H p = some (.tup (ls.map V.int))) (hq : H q = some (.tup (hs.map V.int))) : Dp K H (.ref b) (boxD ls hs c) :=
  .tup (SqT.of hb) (.cons (dp_tup hp) (.cons (dp_tup hq) (.cons (dp_flat (fl_cV c)) .nil)))
theorem eqv_box (a b a' b' : List Int) (c : Option Int) : PyData.eqv (boxD a b c) (boxD a' b' c) = (decide (a = a') && decide (b = b')) := by
  have e : PyData.eqv (dV (cV c)) (dV (cV c)) = true := by
    cases c with
    | none => rfl
    | some x =>
      show PyData.eqv (.int x) (.int x) = true
      simp [PyData.eqv]
  unfold boxD
  simp only [PyData.eqv, PyData.eqvAll, eqv_dw, e, Bool.and_true]
theorem lay_dw (x : List Int) : PyData.canLay0 (dw x) = true := by
  have := lay_worlds [x]
  show PyData.canLay0 (dw x) = true
  have e : PyData.canLayAll0 ([x].map dw) = (PyData.canLay0 (dw x) && PyData.canLayAll0 []) := by
    show PyData.canLayAll0 [dw x] = _
    simp only [PyData.canLayAll0]
  rw [e] at this
  exact (Bool.and_eq_true _ _ ▸ this).1
theorem dep_dw (x : List Int) : PyData.depth (dw x) ≤ 1 := by
  have := depth_worlds [x]
  have e : PyData.depthAll ([x].map dw) = max (PyData.depth (dw x)) (PyData.depthAll []) := by
    show PyData.depthAll [dw x] = _
    simp only [PyData.depthAll]
  rw [e] at this
  omega
theorem box_shaped (a b : List Int) (c : Option Int) : SeqAt.shaped (boxD a b c) = true := by
  have h1 := lay_dw a
  have h2 := lay_dw b
  have d1 := dep_dw a
  have d2 := dep_dw b
  have l3 : PyData.canLay0 (dV (cV c)) = true := by cases c <;> rfl
  have d3 : PyData.depth (dV (cV c)) = 0 := by cases c <;> rfl
  unfold SeqAt.shaped
  have e1 : (boxD a b c).canLay0 = true := by
    unfold boxD
    simp only [PyData.canLay0, PyData.canLayAll0, h1, h2, l3, Bool.and_true]
  have e2 : (boxD a b c).depth ≤ 2 := by
    unfold boxD
    simp only [PyData.depth, PyData.depthAll, d3]
    omega
  rw [e1, Bool.true_and]
  exact decide_eq_true (by omega)
def lvs (rs : List RW) (lw hg : Nat → Int) (n : Nat) (c : Option Int) (k : Nat) (m : Int) (e : Int) : Prop :=
  clm rs (LI (tlF (yLo lw k m) hg n c) n, LI (thF (yLo lw k m) hg n c) n) e ∨ clm rs (LI (tlF lw (yLo hg k (m - 1)) n c) n, LI (thF lw (yLo hg k (m - 1)) n c) n) e
section
variable {P : Program} {w : World} {K : PySem.W.Frag} {mg : Str → Option Value} {base : Heap} {a : Ad} {fd : Fd}
def spLeaves (P : Program) (w : World) : Sp := fun vs H Q _ => ∃ (v : V) (l d : Addr) (lw hg : Nat → Int) (n k : Nat) (m : Int) (c : Option Int) (e : Int) (rs : List RW) (kvs : List NEnt), vs = [v, .ref l, .int e, .ref d] ∧ BoxH H v lw hg n n c ∧ Bx lw hg n c ∧ H l = some (.tup [.int (k : Int), .int m]) ∧ LkOk lw hg n k m ∧ ClD P w H d rs kvs ∧
  (lvs rs lw hg n c k m e → ∀ H', Same H H' → Q (.bl true) H') ∧ (¬ lvs rs lw hg n c k m e → ∀ H', Same H H' → Q (.bl false) H')
theorem ok_leaves (T : Txt K mg a fd) : FnOk P w K mg base CX0 5 a.leaves fd.leaves ["box", "look", "depth", "claims"] (spLeaves P w) := by
  have G_parted := ok_parted (P := P) (w := w) (base := base) T
  have G_is_claimed := ok_is_claimed (P := P) (w := w) (base := base) T
  refine T.F_leaves.ok sc_leaves (fun vs H Q E h => ?_) (fun cdv A outer s0 H vs Q E hr h => ?_)
  · obtain ⟨v, l, d, lw, hg, n, k, m, c, e, rs, kvs, rfl, _⟩ := h
    rfl
  · obtain ⟨v, l, d, lw, hg, n, k, m, c, e, rs, kvs, rfl, B, X, hl, ⟨hk, h1, h2⟩, C, k1, k2⟩ := h
    refine ⟨_, (pss_cons (ps_for PassesOwn.never rfl (pi_tup (pe_call G_parted (hr.mono (by decide)) (by rfl) T.g_parted T.F_parted.kp T.b_parted .nil pass0 (pa_cons (pv 0) (pa_cons (pv 1) pa_nil)))) (pg_tup (by rfl) (pgs_cons (pg_name (i := 4) sc_leaves.nd rfl (Or.inl rfl)) (pgs_cons (pg_name (i := 5) sc_leaves.nd rfl (Or.inl rfl)) (pgs_cons (pg_name (i := 6) sc_leaves.nd rfl (Or.inl rfl)) pgs_nil))))
      (pss_one (ps_if (pt_val (pe_call G_is_claimed (hr.mono (by decide)) (by rfl) T.g_is_claimed T.F_is_claimed.kp T.b_is_claimed .nil pass0 (pa_cons (pv 4) (pa_cons (pv 5) (pa_cons (pv 2) (pa_cons (pv 3) pa_nil)))))) (pss_one (ps_ret pe_bl)) pss_nil)))
    (pss_one (ps_ret pe_bl))), ?_⟩
    have ty := X.tg.yes hk (show lw k < m by omega) h2
    have tn := X.tg.no hk (show lw k < m by omega) h2
    refine ⟨_, rfl, _, rfl, v, l, lw, hg, n, k, m, c, rfl, B, hl, X.nn, hk, X.oc, ty.2, tn.2, fun pp vy vn H1 s1 hp B1 B2 => ?_⟩
    refine ⟨pp, rfl, ⟨_, SqT.of hp⟩, ?_⟩
    obtain ⟨by_, py, qy, rfl, hy1, hy2, hy3⟩ := B1
    obtain ⟨bn, pn, qn, rfl, hn1, hn2, hn3⟩ := B2
    have C1 := C.same s1
    refine for_tup (K := K) (a := pp) (xs := [V.ref by_, V.ref bn]) (fun i σ H' => ∃ v4 v5 v6 : Option V, σ = [some v, some (.ref l), some (.int e), some (.ref d), v4, v5, v6] ∧ Same H1 H' ∧ (1 ≤ i → ¬ clm rs (LI (tlF (yLo lw k m) hg n c) n, LI (thF (yLo lw k m) hg n c) n) e) ∧ (2 ≤ i → ¬ clm rs (LI (tlF lw (yLo hg k (m - 1)) n c) n, LI (thF lw (yLo hg k (m - 1)) n c) n) e))
      ⟨none, none, none, rfl, Same.refl _, fun z => by omega, fun z => by omega⟩ (fun i σ H' _ ⟨_, _, _, _, s, _⟩ => SqT.of (s _ _ hp)) ?_ ?_
    · rintro i x σ H2 hx ⟨v4, v5, v6, rfl, s2, q1, q2⟩
      match i, hx with
      | 0, hx =>
        cases hx
        refine ⟨by_, _, rfl, SqT.of (s2 _ _ hy1), rfl, _, _, rfl, _, _, rfl, _, _, rfl, rfl, ?_⟩
        refine ⟨_, rfl, _, rfl, _, rfl, _, rfl, py, qy, d, _, _, e, rs, kvs, rfl, s2 _ _ hy2, s2 _ _ hy3, C1.same s2, fun y H3 s3 => ⟨_, rfl, iteT ?_⟩, fun y H3 s3 => ⟨_, rfl, iteF ?_⟩⟩
        · exact k1 (.inl y) _ ((s1.trans s2).trans s3)
        · exact ⟨_, _, _, rfl, s2.trans s3, fun _ => y, fun z => absurd z (by decide)⟩
      | 1, hx =>
        cases hx
        refine ⟨bn, _, rfl, SqT.of (s2 _ _ hn1), rfl, _, _, rfl, _, _, rfl, _, _, rfl, rfl, ?_⟩
        refine ⟨_, rfl, _, rfl, _, rfl, _, rfl, pn, qn, d, _, _, e, rs, kvs, rfl, s2 _ _ hn2, s2 _ _ hn3, C1.same s2, fun y H3 s3 => ⟨_, rfl, iteT ?_⟩, fun y H3 s3 => ⟨_, rfl, iteF ?_⟩⟩
        · exact k1 (.inr y) _ ((s1.trans s2).trans s3)
        · exact ⟨_, _, _, rfl, s2.trans s3, fun _ => q1 (by decide), fun _ => y⟩
    · rintro σ H2 ⟨v4, v5, v6, rfl, s2, q1, q2⟩
      exact k2 (fun z => z.elim (q1 (by show 1 ≤ 2; decide)) (q2 (by show 2 ≤ 2; decide))) _ (s1.trans s2)
def shn (rs : List RW) (x : RW) (c : Option Int) : Prop := x.2 ≤ 0 ∨ (LI (tlF (lof x.1.1) (lof x.1.2) x.1.1.length c) x.1.1.length = x.1.1 ∧ LI (thF (lof x.1.1) (lof x.1.2) x.1.1.length c) x.1.1.length = x.1.2 ∧ x.1.1 ≠ x.1.2 ∧
  ∀ k m, LkOk (lof x.1.1) (lof x.1.2) x.1.1.length k m → lvs rs (lof x.1.1) (lof x.1.2) x.1.1.length c k m (x.2 - 1))
def spShown (P : Program) (w : World) : Sp := fun vs H Q _ => ∃ (t d : Addr) (x : RW) (c : Option Int) (rs : List RW) (kvs : List NEnt), vs = [.ref t, cV c, .ref d] ∧ RwH H t x ∧ RwOk x ∧ cOk c ∧ hw x c ∧ ClD P w H d rs kvs ∧
  (shn rs x c → ∀ H', Same H H' → Q (.bl true) H') ∧ (¬ shn rs x c → ∀ H', Same H H' → Q (.bl false) H')
theorem ok_is_shown (T : Txt K mg a fd) : FnOk P w K mg base (L2.CX P w) 6 a.is_shown fd.is_shown ["row", "total", "claims"] (spShown P w) := by
  have G_tight := ok_tight (P := P) (w := w) (base := base) T
  have G_looks_in := ok_looks_in (P := P) (w := w) (base := base) T
  have G_leaves := ok_leaves (P := P) (w := w) (base := base) T
  refine T.F_is_shown.okX sc_is_shown (fun vs H Q E h => ?_) (fun cdv A outer s0 H vs Q E hr h => ?_)
  · obtain ⟨t, d, x, c, rs, kvs, rfl, _⟩ := h
    rfl
  · obtain ⟨t, d, x, c, rs, kvs, rfl, ⟨p, q, ht, hp, hq⟩, ok, oc, ⟨ib, nb⟩, C, k1, k2⟩ := h
    obtain ⟨⟨ls, hs⟩, e⟩ := x
    have hp : H p = some (.tup (ls.map V.int)) := hp
    have hq : H q = some (.tup (hs.map V.int)) := hq
    have ib : isB (lof ls) (lof hs) ls.length hs.length := ib
    have nb : ¬ badC (sumF (lof ls) ls.length) (sumF (lof hs) ls.length) c := nb
    have ok1 : ls.length ≤ 1000 := ok.l1
    have ok2 : hs.length ≤ 1000 := ok.l2
    refine ⟨_, (pss_cons (ps_asg (pv 0) (pg_tup (by rfl) (pgs_cons (pg_name (i := 3) sc_is_shown.nd rfl (Or.inl rfl)) (pgs_cons (pg_name (i := 4) sc_is_shown.nd rfl (Or.inl rfl)) (pgs_cons (pg_name (i := 5) sc_is_shown.nd rfl (Or.inr rfl)) pgs_nil)))))
    (pss_cons (ps_if (pt_cmpR op_le (pv 5) pe_int (nomark _)) (pss_one (ps_ret pe_bl)) pss_nil)
    (pss_cons (ps_set (i := 6) sc_is_shown.nd rfl (Or.inr rfl) (pe_tup (pa_cons (pv 3) (pa_cons (pv 4) (pa_cons (pv 1) pa_nil)))))
    (pss_cons (ps_if (PW.pt (pw_or (pt_cmpR (op_neD hr.units) (pe_call G_tight (hr.mono (by decide)) (by rfl) T.g_tight T.F_tight.kp T.b_tight .nil passU (pa_cons (pv 6) pa_nil)) (pv 6) (nomark _)) (pw_or1 (pt_cmpR (op_eqD hr.units) (pv 3) (pv 4) (nomark _))))) (pss_one (ps_ret pe_bl)) pss_nil)
    (pss_one (ps_ret (pe_callB (cr_all rfl) (by rfl) T.n_all (by decide +kernel) (pa_cons (pe_lc (own := [("look", 7)]) (g := gName 7) (by rfl) sc_is_shown.nd (pi_list (pe_call G_looks_in (hr.mono (by decide)) (by rfl) T.g_looks_in T.F_looks_in.kp T.b_looks_in .nil pass0 (pa_cons (pv 6) pa_nil))) (blkOk_by (own := [("look", 7)]) (N := ["row", "total", "claims", "lows", "highs", "depth", "box", "look"]) (sc := defScope s_is_shown) (by decide +kernel)) (fun _ _ _ _ _ => pg_name (i := 7) sc_is_shown.nd rfl (Or.inl rfl)) (fun _ _ _ _ _ => pts_nil) (fun _ _ _ _ _ => (pe_call G_leaves (hr.mono (by decide)) (by rfl) T.g_leaves T.F_leaves.kp T.b_leaves .nil pass0 (pa_cons (pv 6) (pa_cons (pv 7) (pa_cons (pe_op op_sub (pv 5) pe_int) (pa_cons (pv 2) pa_nil))))))) pa_nil)))))))), ?_⟩
    refine ⟨_, rfl, t, _, rfl, SqT.of ht, rfl, _, _, rfl, _, _, rfl, _, _, rfl, rfl, ?_⟩
    try dsimp only
    refine seq_go ?_
    refine ⟨_, rfl, _, _, rfl, rfl, _, rfl, ?_⟩
    by_cases c0 : e ≤ 0
    · rw [decide_eq_true c0]
      refine iteT ?_
      exact k1 (.inl c0) H (Same.refl _)
    · rw [decide_eq_false c0]
      refine iteF ?_
      refine next_go ?_
      refine seq_go ?_
      refine ⟨_, rfl, _, rfl, _, rfl, (by show 3 ≤ sizeLine; decide), fun b nb0 => ?_⟩
      have s1 : Same H (upd H b (.tup [V.ref p, V.ref q, cV c])) := same_upd nb0
      have hb1 : (upd H b (.tup [V.ref p, V.ref q, cV c])) b = some (.tup [V.ref p, V.ref q, cV c]) := upd_same
      generalize upd H b (.tup [V.ref p, V.ref q, cV c]) = H1 at s1 hb1 ⊢
      have hp1 := s1 _ _ hp
      have hq1 := s1 _ _ hq
      have nn : ls.length = hs.length := ib.1
      refine gName_go ?_
      try dsimp only
      refine seq_go ?_
      have B1 : BoxH H1 (.ref b) (lof ls) (lof hs) ls.length ls.length c := ⟨b, p, q, rfl, hb1, by rw [LI_lof]; exact hp1, by rw [nn, LI_lof]; exact hq1⟩
      have ib' : isB (lof ls) (lof hs) ls.length ls.length := ⟨rfl, ib.2⟩
      refine ⟨_, rfl, .ref b, lof ls, lof hs, ls.length, ls.length, c, rfl, B1, ⟨ok1, ok1, lof_int ok.o1, fun i hi => lof_int ok.o2 i (by show i < hs.length; omega), oc⟩, fun z => absurd ib' z, fun _ z => absurd z nb, fun _ _ v2 H2 s2 B2 => ?_⟩
      obtain ⟨b2, p2, q2, rfl, hb2, hp2, hq2⟩ := B2
      refine ⟨_, rfl, boxD (LI (tlF (lof ls) (lof hs) ls.length c) ls.length) (LI (thF (lof ls) (lof hs) ls.length c) ls.length) c, boxD ls hs c, dp_box hb2 hp2 hq2, dp_box (s2 _ _ hb1) (s2 _ _ hp1) (s2 _ _ hq1), box_shaped _ _ _, box_shaped _ _ _, _, rfl, ?_⟩
      have s12 := s1.trans s2
      rw [eqv_box]
      by_cases t1 : LI (tlF (lof ls) (lof hs) ls.length c) ls.length = ls ∧ LI (thF (lof ls) (lof hs) ls.length c) ls.length = hs
      · rw [decide_eq_true t1.1, decide_eq_true t1.2]
        refine iteF ?_
        refine ⟨_, rfl, _, rfl, dw ls, dw hs, dp_tup (s2 _ _ hp1), dp_tup (s2 _ _ hq1), dw_shaped _, dw_shaped _, _, rfl, ?_⟩
        rw [eqv_dw]
        by_cases t2 : ls = hs
        · rw [decide_eq_true t2]
          refine iteT ?_
          exact k2 (fun z => z.elim c0 fun z => z.2.2.1 t2) _ s12
        · rw [decide_eq_false t2]
          refine iteF ?_
          refine next_go ?_
          have T1 : ∀ i, i < ls.length → tlF (lof ls) (lof hs) ls.length c i = lof ls i := fun i hi => by
            have := t1.1
            have h2 : (LI (tlF (lof ls) (lof hs) ls.length c) ls.length)[i]? = ls[i]? := by rw [this]
            rw [LI_at _ hi, List.getElem?_eq_getElem hi] at h2
            rw [lof_at (List.getElem?_eq_getElem hi)]
            exact Option.some.inj h2
          have T2 : ∀ i, i < ls.length → thF (lof ls) (lof hs) ls.length c i = lof hs i := fun i hi => by
            have := t1.2
            have h2 : (LI (thF (lof ls) (lof hs) ls.length c) ls.length)[i]? = hs[i]? := by rw [this]
            have hi' : i < hs.length := by omega
            rw [LI_at _ hi, List.getElem?_eq_getElem hi'] at h2
            rw [lof_at (List.getElem?_eq_getElem hi')]
            exact Option.some.inj h2
          have X : Bx (lof ls) (lof hs) ls.length c := ⟨ib.2.2.1, fun i hi => by
            have := ib.2.2.2 i hi
            omega, ⟨fun i hi => (ib.2.2.2 i hi).2.1, nb, T1, T2⟩, oc⟩
          have B2' := B1.same s2
          refine ⟨_, rfl, .ref b, lof ls, lof hs, ls.length, c, rfl, B2', X.nn, fun i hi => ⟨(X.sm i hi).1, (X.sm i hi).2, X.tg.le i hi⟩, fun r ts H3 s3 nr hr3 hT => ?_⟩
          have C3 := (C.same s12).same s3
          have B3 := B2'.same s3
          have ll : (lks (lof ls) (lof hs) ls.length).length ≤ 21 := Nat.le_trans (lks_len X.sm) (by have := X.nn; omega)
          refine ⟨r, rfl, ⟨_, SqL.of hr3⟩, fun D nD => lc_list (K := K) (a := r) (xs := ts.map V.ref) (BlP H3 D (fun l : List Int => tr (∀ (k : Nat) (m : Int), l = [(k : Int), m] → lvs rs (lof ls) (lof hs) ls.length c k m (e - 1))) (lks (lof ls) (lof hs) ls.length)) (BlP.start nD) (fun j H' _ h => SqL.of (h.1 _ _ hr3)) ?_ ?_⟩
          · rintro j y H4 hy h
            obtain ⟨u, eu, rfl⟩ : ∃ t, ts[j]? = some t ∧ y = V.ref t := by
              rw [List.getElem?_map] at hy
              obtain ⟨t, e1, e2⟩ := Option.map_eq_some_iff.mp hy
              exact ⟨t, e1, e2.symm⟩
            obtain ⟨y, ey, hu⟩ := hT.get eu
            obtain ⟨k, m, hk, b1, b2, rfl⟩ := mem_lks.mp (List.mem_of_getElem? ey)
            refine ⟨rfl, ?_⟩
            dsimp only [tYes]
            rw [if_pos rfl]
            have key : ∀ b : Bool, tr (∀ (k' : Nat) (m' : Int), [(k : Int), m] = [(k' : Int), m'] → lvs rs (lof ls) (lof hs) ls.length c k' m' (e - 1)) = b → ∀ H5, Same H4 H5 → ∃ acc, H5 D = some (.lst acc) ∧ acc.length < sizeLine ∧ BlP H3 D (fun l : List Int => tr (∀ (k : Nat) (m : Int), l = [(k : Int), m] → lvs rs (lof ls) (lof hs) ls.length c k m (e - 1))) (lks (lof ls) (lof hs) ls.length) (j + 1) (upd H5 D (.lst (acc ++ [V.bl b]))) := fun b hb H5 s5 => by
              have := h.step nD s5 ey (by omega)
              rw [hb] at this
              exact this
            refine ⟨_, rfl, _, rfl, _, rfl, _, _, rfl, rfl, _, rfl, .ref b, u, d, lof ls, lof hs, ls.length, k, m, c, e - 1, rs, kvs, rfl, B3.same h.1, X, h.1 _ _ hu, ⟨hk, b1, b2⟩, C3.same h.1, fun y H5 s5 => key true (tr_t fun k' m' z => ?_) H5 s5, fun y H5 s5 => key false (tr_f fun z => y (z k m rfl)) H5 s5⟩
            injection z with z1 z2
            injection z2 with z2 _
            have : k' = k := by omega
            subst this
            subst z2
            exact y
          · intro H4 h
            rw [List.length_map, hT.len] at h
            obtain ⟨s4, hD⟩ := h.all
            refine ⟨D, _, rfl, SqL.of hD, ?_⟩
            cases q : ((lks (lof ls) (lof hs) ls.length).map (fun l : List Int => tr (∀ (k : Nat) (m : Int), l = [(k : Int), m] → lvs rs (lof ls) (lof hs) ls.length c k m (e - 1)))).all id with
            | true =>
              refine k1 (.inr ⟨t1.1, t1.2, t2, fun k m l => ?_⟩) _ ((s12.trans s3).trans s4)
              exact tr_iff.mp (all_id.mp q _ (mem_lks.mpr ⟨k, m, l.1, l.2.1, l.2.2, rfl⟩)) k m rfl
            | false =>
              refine k2 (fun z => z.elim c0 fun z => ?_) _ ((s12.trans s3).trans s4)
              have : ((lks (lof ls) (lof hs) ls.length).map (fun l : List Int => tr (∀ (k : Nat) (m : Int), l = [(k : Int), m] → lvs rs (lof ls) (lof hs) ls.length c k m (e - 1)))).all id = true := all_id.mpr fun l hl => tr_t fun k m el => by
                obtain ⟨k', m', a1, a2, a3, a4⟩ := mem_lks.mp hl
                rw [el] at a4
                injection a4 with z1 z2
                injection z2 with z2 _
                have : k = k' := by omega
                subst this
                subst z2
                exact z.2.2.2 k m ⟨a1, a2, a3⟩
              rw [q] at this
              cases this
      · have ef : (decide (LI (tlF (lof ls) (lof hs) ls.length c) ls.length = ls) && decide (LI (thF (lof ls) (lof hs) ls.length c) ls.length = hs)) = false := by
          cases z : (decide (LI (tlF (lof ls) (lof hs) ls.length c) ls.length = ls) && decide (LI (thF (lof ls) (lof hs) ls.length c) ls.length = hs)) with
          | false => rfl
          | true =>
            have := Bool.and_eq_true _ _ ▸ z
            exact absurd ⟨of_decide_eq_true this.1, of_decide_eq_true this.2⟩ t1
        rw [ef]
        refine iteT (iteT ?_)
        exact k2 (fun z => z.elim c0 fun z => t1 ⟨z.1, z.2.1⟩) _ s12
end
end Nu
set_option maxRecDepth 700000
namespace Nu
open PySem PySem.Spec PyProof.Rows L2
/-- what the paper of these rows shows -/
def ShowsP (rs : List RW) (lw hg : Nat → Int) (n : Nat) (c : Option Int) (e : Int) : Prop := (∀ x ∈ rs, hw x c) ∧ clm rs (LI (tlF lw hg n c) n, LI (thF lw hg n c) n) e ∧ ∀ x ∈ rs, shn rs x c
theorem not_single {x : RW} {c : Option Int} (h : hw x c) (t1 : LI (tlF (lof x.1.1) (lof x.1.2) x.1.1.length c) x.1.1.length = x.1.1) (t2 : LI (thF (lof x.1.1) (lof x.1.2) x.1.1.length c) x.1.1.length = x.1.2) (ne : x.1.1 ≠ x.1.2) : ¬ Single x.1.1.length (Wd (lof x.1.1) (lof x.1.2) x.1.1.length c) := by
  intro hc
  have ib := h.1
  have nb := h.2
  refine ne (List.ext_getElem? fun i => ?_)
  by_cases hi : i < x.1.1.length
  · have hi' : i < x.1.2.length := by have := ib.1; omega
    have T1 : tlF (lof x.1.1) (lof x.1.2) x.1.1.length c i = lof x.1.1 i := by
      have h3 : (LI (tlF (lof x.1.1) (lof x.1.2) x.1.1.length c) x.1.1.length)[i]? = x.1.1[i]? := by rw [t1]
      rw [LI_at _ hi, List.getElem?_eq_getElem hi] at h3
      rw [lof_at (List.getElem?_eq_getElem hi)]
      exact Option.some.inj h3
    have T2 : thF (lof x.1.1) (lof x.1.2) x.1.1.length c i = lof x.1.2 i := by
      have h3 : (LI (thF (lof x.1.1) (lof x.1.2) x.1.1.length c) x.1.1.length)[i]? = x.1.2[i]? := by rw [t2]
      rw [LI_at _ hi, List.getElem?_eq_getElem hi'] at h3
      rw [lof_at (List.getElem?_eq_getElem hi')]
      exact Option.some.inj h3
    have le : ∀ i, i < x.1.1.length → lof x.1.1 i ≤ lof x.1.2 i := fun i hi => (ib.2.2.2 i hi).2.1
    have bb := le i hi
    obtain ⟨f, hf, ef⟩ := (tight_iff hi le nb (lof x.1.1 i)).mpr (by rw [T1, T2]; omega)
    obtain ⟨g, hg, eg⟩ := (tight_iff hi le nb (lof x.1.2 i)).mpr (by rw [T1, T2]; omega)
    have e := hc f g hf hg i hi
    have a1 := lof_at (List.getElem?_eq_getElem hi)
    have a2 := lof_at (List.getElem?_eq_getElem hi')
    rw [List.getElem?_eq_getElem hi, List.getElem?_eq_getElem hi', ← a1, ← a2]
    congr 1
    omega
  · rw [List.getElem?_eq_none (by omega), List.getElem?_eq_none (by have := ib.1; omega)]
/-- no paper shows too much -/
theorem rows_sound {rs : List RW} {c : Option Int} (h1 : ∀ x ∈ rs, hw x c) (h2 : ∀ x ∈ rs, shn rs x c) (oc : cOk c) : ∀ (d : Nat) (x : RW), x ∈ rs → (d : Int) < x.2 → ¬ CanW x.1.1.length d (Wd (lof x.1.1) (lof x.1.2) x.1.1.length c) := by
  intro d
  induction d with
  | zero =>
    intro x hx hd hc
    rcases h2 x hx with z | ⟨t1, t2, ne, _⟩
    · omega
    · exact not_single (h1 x hx) t1 t2 ne hc
  | succ d ih =>
    intro x hx hd hc
    have ib := (h1 x hx).1
    have nb := (h1 x hx).2
    rcases hc with hc | ⟨k, m, hk, ⟨f, hf, hf'⟩, ⟨g, hg, hg'⟩, hy, hn⟩
    · rcases h2 x hx with z | ⟨t1, t2, ne, _⟩
      · omega
      · exact not_single (h1 x hx) t1 t2 ne hc
    · rcases h2 x hx with z | ⟨t1, t2, ne, lv⟩
      · omega
      · have b1 := (hf.1 k hk).2
        have b2 := (hg.1 k hk).1
        have go : ∀ (ls hs : List Int), clm rs (ls, hs) (x.2 - 1) → CanW ls.length d (Wd (lof ls) (lof hs) ls.length c) → False := fun ls hs cl cw => by
          rcases cl with z | ⟨y, hy, ek, el⟩
          · omega
          · have := ih y hy (by omega)
            rw [ek] at this
            exact this cw
        have lf : ∀ (F : Nat → Int) (n : Nat), (LI F n).length = n := LI_len
        have lfe : ∀ (F : Nat → Int) (n i : Nat), i < n → lof (LI F n) i = F i := fun F n i hi => lof_at (LI_at F hi)
        have wd : ∀ (F G : Nat → Int) (n : Nat), Wd (lof (LI F n)) (lof (LI G n)) (LI F n).length c = Wd F G n c := fun F G n => ws_ext fun f => by
          rw [LI_len]
          unfold Wd
          refine and_congr_left fun _ => ⟨fun q i hi => ?_, fun q i hi => ?_⟩
          · have := q i hi
            rw [lfe F n i hi, lfe G n i hi] at this
            exact this
          · rw [lfe F n i hi, lfe G n i hi]
            exact q i hi
        have lk : LkOk (lof x.1.1) (lof x.1.2) x.1.1.length k m := ⟨hk, by omega, by omega⟩
        rcases lv k m lk with cl | cl
        · refine go _ _ cl ?_
          rw [wd, LI_len]
          have e : Wd (tlF (yLo (lof x.1.1) k m) (lof x.1.2) x.1.1.length c) (thF (yLo (lof x.1.1) k m) (lof x.1.2) x.1.1.length c) x.1.1.length c = YesW (lof x.1.1) (lof x.1.2) x.1.1.length c k m := ws_ext fun f => by rw [Wd.tight_iff', Wd.yes hk (by omega)]
          rw [e]
          exact hy
        · refine go _ _ cl ?_
          rw [wd, LI_len]
          have e : Wd (tlF (lof x.1.1) (yLo (lof x.1.2) k (m - 1)) x.1.1.length c) (thF (lof x.1.1) (yLo (lof x.1.2) k (m - 1)) x.1.1.length c) x.1.1.length c = NoW (lof x.1.1) (lof x.1.2) x.1.1.length c k m := ws_ext fun f => by rw [Wd.tight_iff', Wd.no hk (by omega)]
          rw [e]
          exact hn
section
variable {P : Program} {w : World} {K : PySem.W.Frag} {mg : Str → Option Value} {base : Heap} {a : Ad} {fd : Fd}
def spShows (P : Program) (w : World) : Sp := fun vs H Q _ => ∃ (v : V) (r : Addr) (lw hg : Nat → Int) (n : Nat) (c : Option Int) (e : Int) (ts : List Addr) (rs : List RW), vs = [v, .int e, .ref r] ∧ BoxH H v lw hg n n c ∧ BOk lw hg n n c ∧ isB lw hg n n ∧ ¬ badC (sumF lw n) (sumF hg n) c ∧ H r = some (.lst (ts.map V.ref)) ∧ RwsH H ts rs ∧ rs.length ≤ 700000 ∧ (∀ x ∈ rs, RwOk x) ∧
  (ShowsP rs lw hg n c e → ∀ H', Same H H' → Q (.bl true) H') ∧ (¬ ShowsP rs lw hg n c e → ∀ H', Same H H' → Q (.bl false) H')
theorem ok_shows (T : Txt K mg a fd) (EX : ExB K a) : FnOk P w K mg base CX0 7 a.shows fd.shows ["box", "depth", "rows"] (spShows P w) := by
  have G_tight := ok_tight (P := P) (w := w) (base := base) T
  have G_has_worlds := ok_has_worlds (P := P) (w := w) (base := base) T EX
  have G_greatest_claims := ok_greatest_claims (P := P) (w := w) (base := base) T
  have G_is_claimed := ok_is_claimed (P := P) (w := w) (base := base) T
  have G_is_shown := ok_is_shown (P := P) (w := w) (base := base) T
  refine T.F_shows.ok sc_shows (fun vs H Q E h => ?_) (fun cdv A outer s0 H vs Q E hr h => ?_)
  · obtain ⟨v, r, lw, hg, n, c, e, ts, rs, rfl, _⟩ := h
    rfl
  · obtain ⟨v, r, lw, hg, n, c, e, ts, rs, rfl, B, ok, ib, nb, hr0, hT, hl, hok, k1, k2⟩ := h
    refine ⟨_, (pss_cons (ps_asg (pe_call G_tight (hr.mono (by decide)) (by rfl) T.g_tight T.F_tight.kp T.b_tight .nil passL (pa_cons (pv 0) pa_nil)) (pg_tup (by rfl) (pgs_cons (pg_name (i := 3) sc_shows.nd rfl (Or.inl rfl)) (pgs_cons (pg_name (i := 4) sc_shows.nd rfl (Or.inl rfl)) (pgs_cons (pg_name (i := 5) sc_shows.nd rfl (Or.inr rfl)) pgs_nil)))))
    (pss_cons (ps_if (pt_not (pt_val (pe_callB (cr_all rfl) (by rfl) T.n_all (by decide +kernel) (pa_cons (pe_lc (own := [("row", 6)]) (g := gName 6) (by rfl) sc_shows.nd (pi_list (pv 2)) (blkOk_by (own := [("row", 6)]) (N := ["box", "depth", "rows", "lows", "highs", "total", "row", "claims"]) (sc := defScope s_shows) (by decide +kernel)) (fun _ _ _ _ _ => pg_name (i := 6) sc_shows.nd rfl (Or.inl rfl)) (fun _ _ _ _ _ => pts_nil) (fun _ _ _ _ _ => (pe_call G_has_worlds (hr.mono (by decide)) (by rfl) T.g_has_worlds T.F_has_worlds.kp T.b_has_worlds .nil pass0 (pa_cons (pv 6) (pa_cons (pv 5) pa_nil))))) pa_nil)))) (pss_one (ps_ret pe_bl)) pss_nil)
    (pss_cons (ps_set (i := 7) sc_shows.nd rfl (Or.inr rfl) (pe_call G_greatest_claims (hr.mono (by decide)) (by rfl) T.g_greatest_claims T.F_greatest_claims.kp T.b_greatest_claims .nil pass0 (pa_cons (pv 2) pa_nil)))
    (pss_cons (ps_if (pt_not (pt_val (pe_call G_is_claimed (hr.mono (by decide)) (by rfl) T.g_is_claimed T.F_is_claimed.kp T.b_is_claimed .nil pass0 (pa_cons (pv 3) (pa_cons (pv 4) (pa_cons (pv 1) (pa_cons (pv 7) pa_nil))))))) (pss_one (ps_ret pe_bl)) pss_nil)
    (pss_one (ps_ret (pe_callB (cr_all rfl) (by rfl) T.n_all (by decide +kernel) (pa_cons (pe_lc (own := [("row", 6)]) (g := gName 6) (by rfl) sc_shows.nd (pi_list (pv 2)) (blkOk_by (own := [("row", 6)]) (N := ["box", "depth", "rows", "lows", "highs", "total", "row", "claims"]) (sc := defScope s_shows) (by decide +kernel)) (fun _ _ _ _ _ => pg_name (i := 6) sc_shows.nd rfl (Or.inl rfl)) (fun _ _ _ _ _ => pts_nil) (fun _ _ _ _ _ => (pe_call G_is_shown (hr.mono (by decide)) (by rfl) T.g_is_shown T.F_is_shown.kp T.b_is_shown .nil passL (pa_cons (pv 6) (pa_cons (pv 5) (pa_cons (pv 7) pa_nil)))))) pa_nil)))))))), ?_⟩
    refine ⟨_, rfl, v, lw, hg, n, n, c, rfl, B, ok, fun z => absurd ib z, fun _ z => absurd z nb, fun _ _ v1 H1 s1 B1 => ?_⟩
    obtain ⟨b, p, q, rfl, hb, hp, hq⟩ := B1
    refine ⟨b, _, rfl, SqT.of hb, rfl, _, _, rfl, _, _, rfl, _, _, rfl, rfl, ?_⟩
    try dsimp only
    refine seq_go ?_
    have hr1 := s1 _ _ hr0
    have hT1 := hT.same s1
    have lT : ts.length = rs.length := hT.len
    -- all have worlds
    refine ⟨_, rfl, r, rfl, ⟨_, SqL.of hr1⟩, fun D nD => lc_list (K := K) (a := r) (xs := ts.map V.ref) (BlP H1 D (fun x : RW => tr (hw x c)) rs) (BlP.start nD) (fun j H' _ h => SqL.of (h.1 _ _ hr1)) ?_ ?_⟩
    · rintro j y H4 hy h
      obtain ⟨u, eu, rfl⟩ : ∃ t, ts[j]? = some t ∧ y = V.ref t := by
        rw [List.getElem?_map] at hy
        obtain ⟨t, e1, e2⟩ := Option.map_eq_some_iff.mp hy
        exact ⟨t, e1, e2.symm⟩
      obtain ⟨x, ex, hx⟩ := (hT1.same h.1).get eu
      refine ⟨rfl, ?_⟩
      dsimp only [tYes]
      rw [if_pos rfl]
      have key : ∀ b : Bool, tr (hw x c) = b → ∀ H5, Same H4 H5 → ∃ acc, H5 D = some (.lst acc) ∧ acc.length < sizeLine ∧ BlP H1 D (fun x : RW => tr (hw x c)) rs (j + 1) (upd H5 D (.lst (acc ++ [V.bl b]))) := fun b hb H5 s5 => by
        have := h.step nD s5 ex hl
        rw [hb] at this
        exact this
      refine ⟨_, rfl, _, rfl, u, x, c, rfl, hx, hok x (List.mem_of_getElem? ex), ok.cc, fun y H5 s5 => key true (tr_t y) H5 s5, fun y H5 s5 => key false (tr_f y) H5 s5⟩
    · intro H2 h
      rw [List.length_map, lT] at h
      obtain ⟨s2, hD⟩ := h.all
      refine ⟨D, _, rfl, SqL.of hD, ?_⟩
      cases q0 : (rs.map (fun x : RW => tr (hw x c))).all id with
      | false =>
        refine ⟨_, rfl, iteT ?_⟩
        refine k2 (fun z => ?_) _ (s1.trans s2)
        have : (rs.map (fun x : RW => tr (hw x c))).all id = true := all_id.mpr fun x hx => tr_t (z.1 x hx)
        rw [q0] at this
        cases this
      | true =>
        have hws : ∀ x ∈ rs, hw x c := fun x hx => tr_iff.mp (all_id.mp q0 x hx)
        refine ⟨_, rfl, iteF ?_⟩
        refine next_go ?_
        refine seq_go ?_
        have hr2 := s2 _ _ hr1
        have hT2 := hT1.same s2
        refine ⟨_, rfl, r, ts, rs, rfl, hr2, hT2, hl, fun d kvs H3 nd s3 C => ?_⟩
        refine gName_go ?_
        try dsimp only
        refine seq_go ?_
        have s23 := s2.trans s3
        refine ⟨_, rfl, _, rfl, _, rfl, _, rfl, p, q, d, _, _, e, rs, kvs, rfl, s23 _ _ hp, s23 _ _ hq, C, fun y H4 s4 => ⟨_, rfl, iteF ?_⟩, fun y H4 s4 => ⟨_, rfl, iteT ?_⟩⟩
        · refine next_go ?_
          have s14 := s23.trans s4
          have hr4 := s14 _ _ hr1
          have hT4 := hT1.same s14
          refine ⟨_, rfl, r, rfl, ⟨_, SqL.of hr4⟩, fun D2 nD2 => lc_list (K := K) (a := r) (xs := ts.map V.ref) (BlP H4 D2 (fun x : RW => tr (shn rs x c)) rs) (BlP.start nD2) (fun j H' _ h => SqL.of (h.1 _ _ hr4)) ?_ ?_⟩
          · rintro j y' H5 hy h
            obtain ⟨u, eu, rfl⟩ : ∃ t, ts[j]? = some t ∧ y' = V.ref t := by
              rw [List.getElem?_map] at hy
              obtain ⟨t, e1, e2⟩ := Option.map_eq_some_iff.mp hy
              exact ⟨t, e1, e2.symm⟩
            obtain ⟨x, ex, hx⟩ := (hT4.same h.1).get eu
            refine ⟨rfl, ?_⟩
            dsimp only [tYes]
            rw [if_pos rfl]
            have key : ∀ b : Bool, tr (shn rs x c) = b → ∀ H6, Same H5 H6 → ∃ acc, H6 D2 = some (.lst acc) ∧ acc.length < sizeLine ∧ BlP H4 D2 (fun x : RW => tr (shn rs x c)) rs (j + 1) (upd H6 D2 (.lst (acc ++ [V.bl b]))) := fun b hb H6 s6 => by
              have := h.step nD2 s6 ex hl
              rw [hb] at this
              exact this
            have xm := List.mem_of_getElem? ex
            refine ⟨_, rfl, _, rfl, _, rfl, u, d, x, c, rs, kvs, rfl, hx, hok x xm, ok.cc, hws x xm, (C.same s4).same h.1, fun y H6 s6 => key true (tr_t y) H6 s6, fun y H6 s6 => key false (tr_f y) H6 s6⟩
          · intro H5 h
            rw [List.length_map, lT] at h
            obtain ⟨s5, hD2⟩ := h.all
            refine ⟨D2, _, rfl, SqL.of hD2, ?_⟩
            cases q1 : (rs.map (fun x : RW => tr (shn rs x c))).all id with
            | false =>
              refine k2 (fun z => ?_) _ ((s1.trans s14).trans s5)
              have : (rs.map (fun x : RW => tr (shn rs x c))).all id = true := all_id.mpr fun x hx => tr_t (z.2.2 x hx)
              rw [q1] at this
              cases this
            | true => exact k1 ⟨hws, y, fun x hx => tr_iff.mp (all_id.mp q1 x hx)⟩ _ ((s1.trans s14).trans s5)
        · exact k2 (fun z => y z.2.1) _ ((s1.trans s23).trans s4)
end
end Nu
namespace Nu
open PySem PySem.Spec PyProof.Rows L2
theorem can_wid {n : Nat} {c : Option Int} : ∀ (N : Nat) {lw hg : Nat → Int}, Bx lw hg n c → sumF (wid lw hg) n ≤ (N : Int) → CanW n N (Wd lw hg n c)
  | N, lw, hg, B, hN => by
    cases e : lks lw hg n with
    | nil => exact (B.flat e).1.mono (Nat.zero_le _)
    | cons x r =>
      have hx : x ∈ lks lw hg n := by
        rw [e]
        exact List.mem_cons_self
      obtain ⟨k, m, hk, h1, h2, _⟩ := mem_lks.mp hx
      have y := B.yes hk (show lw k < m by omega) h2
      have z := B.no hk (show lw k < m by omega) h2
      have yn := y.1.wid_nn
      cases N with
      | zero => omega
      | succ N =>
        have cy := can_wid N y.1 (by omega)
        have cz := can_wid N z.1 (by omega)
        rw [y.2.2] at cy
        rw [z.2.2] at cz
        obtain ⟨f, hf, ef⟩ := (B.tg.at_ hk m).mpr ⟨by omega, h2⟩
        obtain ⟨g, hg', eg⟩ := (B.tg.at_ hk (m - 1)).mpr ⟨by omega, by omega⟩
        exact .inr ⟨k, m, hk, ⟨f, hf, by omega⟩, ⟨g, hg', by omega⟩, cy, cz⟩
theorem can_least {n : Nat} {S : WS} : ∀ N : Nat, CanW n N S → ∃ d, IsD n S d
  | 0, h => ⟨0, h, fun e he => absurd he (Nat.not_lt_zero _)⟩
  | N + 1, h => by
    by_cases q : CanW n N S
    · exact can_least N q
    · refine ⟨N + 1, h, fun e he z => q (z.mono (by omega))⟩
theorem Bx.has {lw hg : Nat → Int} {n : Nat} {c : Option Int} (B : Bx lw hg n c) : ∃ d, IsD n (Wd lw hg n c) d := can_least 21 (can_wid 21 B B.wid_nn.2)
/-- a look splits no better than the least depth -/
theorem look_ge {lw hg : Nat → Int} {n k : Nat} {m : Int} {c : Option Int} (B : Bx lw hg n c) (l : LkOk lw hg n k m) {D ey en : Nat} (hD : IsD n (Wd lw hg n c) D) (hy : IsD n (YesW lw hg n c k m) ey) (hn : IsD n (NoW lw hg n c k m) en) : D ≤ max ey en + 1 := by
  obtain ⟨f, hf, ef⟩ := (B.tg.at_ l.1 m).mpr ⟨by have := l.2.1; omega, l.2.2⟩
  obtain ⟨g, hg', eg⟩ := (B.tg.at_ l.1 (m - 1)).mpr ⟨by have := l.2.1; omega, by have := l.2.2; omega⟩
  exact hD.le (.inr ⟨k, m, l.1, ⟨f, hf, by omega⟩, ⟨g, hg', by omega⟩, hy.1.mono (by omega), hn.1.mono (by omega)⟩)
/-! ### claims -/
def cK : Option Int → NestedKey
  | none => .none
  | some x => .num x
def keyB (ls hs : List Int) (c : Option Int) : NestedKey := .tup [.tup (ls.map .num), .tup (hs.map .num), cK c]
theorem keyB_depth (ls hs : List Int) (c : Option Int) : (keyB ls hs c).depth ≤ 8 := by
  unfold keyB cK
  cases c <;> simp only [NestedKey.depth, NestedKey.depthAll, depthAll_nums] <;> decide
theorem keyB_inj {a b a' b' : List Int} {c : Option Int} (h : keyB a b c = keyB a' b' c) : a = a' ∧ b = b' := by
  unfold keyB at h
  injection h with h
  injection h with h1 h2
  injection h1 with h1
  injection h2 with h2 _
  injection h2 with h2
  exact ⟨nums_inj h1, nums_inj h2⟩
def BxA (H : Hp) (b : Addr) (k : LKey) (c : Option Int) : Prop := ∃ p q, H b = some (.tup [.ref p, .ref q, cV c]) ∧ H p = some (.tup (k.1.map V.int)) ∧ H q = some (.tup (k.2.map V.int))
theorem BxA.mono {H H' : Hp} {b : Addr} {k : LKey} {c : Option Int} (h : BxA H b k c) (s : ∀ c xs, H c = some (.tup xs) → H' c = some (.tup xs)) : BxA H' b k c := by
  obtain ⟨p, q, h1, h2, h3⟩ := h
  exact ⟨p, q, s _ _ h1, s _ _ h2, s _ _ h3⟩
theorem nk_cV {H : Hp} (c : Option Int) : NkV H (cK c) (cV c) := by
  cases c with
  | none => exact .non
  | some x => exact .int x
theorem BxA.nk {H : Hp} {b : Addr} {k : LKey} {c : Option Int} (h : BxA H b k c) : NkV H (keyB k.1 k.2 c) (.ref b) := by
  obtain ⟨p, q, h1, h2, h3⟩ := h
  exact .tup h1 (.cons (.tup h2 (nk_nums _)) (.cons (.tup h3 (nk_nums _)) (.cons (nk_cV c) .nil)))
theorem nums_of {H : Hp} : ∀ {ls : List Int} {xs : List V}, NkAll H (ls.map .num) xs → xs = ls.map V.int
  | [], _, .nil => rfl
  | x :: l, _, .cons (.int _) t => by
    rw [nums_of t]
    rfl
theorem cK_of {H : Hp} {c : Option Int} {v : V} (h : NkV H (cK c) v) : v = cV c := by
  cases c with
  | none => cases h; rfl
  | some x => cases h; rfl
theorem BxA.of_nk {H : Hp} {b : Addr} {ls hs : List Int} {c : Option Int} (h : NkV H (keyB ls hs c) (.ref b)) : BxA H b (ls, hs) c := by
  unfold keyB at h
  cases h with
  | tup h1 h2 =>
    cases h2 with
    | cons a1 r1 =>
      cases r1 with
      | cons a2 r2 =>
        cases r2 with
        | cons a3 r3 =>
          cases r3
          cases a1 with
          | tup p1 p2 =>
            cases a2 with
            | tup q1 q2 =>
              rw [nums_of p2] at p1
              rw [nums_of q2] at q1
              rw [cK_of a3] at h1
              exact ⟨_, _, h1, p1, q1⟩
def entC (c : Option Int) (e : LEnt) : NEnt := (keyB e.1.1 e.1.2 c, e.2.1, .int ((e.2.2 : Nat) : Int))
structure KnC (c : Option Int) (kn : List LEnt) : Prop where
  nd : (kn.map (·.1)).Nodup
  ok : ∀ e ∈ kn, ∃ lw hg n D, Bx lw hg n c ∧ e.1 = (LI lw n, LI hg n) ∧ IsD n (Wd lw hg n c) D ∧ 1 ≤ e.2.2 ∧ e.2.2 ≤ D
theorem keys_len {c : Option Int} {kn : List LEnt} (hnd : (kn.map (·.1)).Nodup) (h : ∀ e ∈ kn, ∃ lw hg n, Bx lw hg n c ∧ e.1 = (LI lw n, LI hg n)) : kn.length ≤ 600000 := by
  have ex : ∀ e ∈ kn, ∃ d, ∃ lw hg n, Bx lw hg n c ∧ e.1 = (LI lw n, LI hg n) ∧ IsD n (Wd lw hg n c) d := fun e he => by
    obtain ⟨lw, hg, n, B, k⟩ := h e he
    obtain ⟨d, hd⟩ := B.has
    exact ⟨d, lw, hg, n, B, k, hd⟩
  have : ∃ kn' : List LEnt, kn'.map (·.1) = kn.map (·.1) ∧ ∀ e ∈ kn', ∃ lw hg n, Bx lw hg n c ∧ e.1 = (LI lw n, LI hg n) ∧ IsD n (Wd lw hg n c) e.2.2 := by
    clear hnd h
    induction kn with
    | nil => exact ⟨[], rfl, fun e h => by cases h⟩
    | cons x r ih =>
      obtain ⟨kn', h1, h2⟩ := ih fun e he => ex e (List.mem_cons_of_mem _ he)
      obtain ⟨d, lw, hg, n, B, k, hd⟩ := ex x List.mem_cons_self
      refine ⟨(x.1, x.2.1, d) :: kn', by rw [List.map_cons, List.map_cons, h1], fun e he => ?_⟩
      rcases List.mem_cons.mp he with e1 | he
      · rw [e1]
        exact ⟨lw, hg, n, B, k, hd⟩
      · exact h2 e he
  obtain ⟨kn', h1, h2⟩ := this
  have l := (KnL.mk (c := c) (kn := kn') (by rw [h1]; exact hnd) h2).len
  have e := congrArg List.length h1
  rw [List.length_map, List.length_map] at e
  omega
theorem KnC.len {c : Option Int} {kn : List LEnt} (h : KnC c kn) : kn.length ≤ 600000 := keys_len (c := c) h.nd fun e he => by
  obtain ⟨lw, hg, n, D, B, k, _⟩ := h.ok e he
  exact ⟨lw, hg, n, B, k⟩
theorem atc_key {c : Option Int} {kn : List LEnt} {k : LKey} {y : NEnt} (q : ((kn.map (entC c)).find? fun x => decide (x.1 = keyB k.1 k.2 c)) = some y) : ∃ e ∈ kn, e.1 = k ∧ y = entC c e := by
  have h1 := List.mem_of_find?_eq_some q
  have h2 := List.find?_some q
  have h2 : y.1 = keyB k.1 k.2 c := of_decide_eq_true h2
  obtain ⟨e, he, rfl⟩ := List.mem_map.mp h1
  have h2 : keyB e.1.1 e.1.2 c = keyB k.1 k.2 c := h2
  have := keyB_inj h2
  exact ⟨e, he, Prod.ext this.1 this.2, rfl⟩
theorem atc_none {c : Option Int} {kn : List LEnt} {k : LKey} (h : atN (kn.map (entC c)) (keyB k.1 k.2 c) = none) : k ∉ kn.map (·.1) := by
  intro hk
  obtain ⟨e, he, rfl⟩ := List.mem_map.mp hk
  unfold atN at h
  have h := Option.map_eq_none_iff.mp h
  have := List.find?_eq_none.mp h (entC c e) (List.mem_map_of_mem he)
  exact this (decide_eq_true rfl)
theorem putc_new {c : Option Int} {kn : List LEnt} {k : LKey} {t : Addr} {d : Nat} (h : atN (kn.map (entC c)) (keyB k.1 k.2 c) = none) : putN (kn.map (entC c)) (keyB k.1 k.2 c) t (.int ((d : Nat) : Int)) = (kn ++ [(k, t, d)]).map (entC c) := by
  unfold putN
  rw [h, List.map_append]
  rfl
structure ClC (P : Program) (w : World) (H : Hp) (d : Addr) (c : Option Int) (kn : List LEnt) : Prop where
  di : DicH P w H d (kn.map (entC c))
  kn : KnC c kn
theorem ClC.put {P : Program} {w : World} {H : Hp} {d : Addr} {c : Option Int} {kn : List LEnt} (O : ClC P w H d c kn) {t : Addr} {L D : Nat} {lw hg : Nat → Int} {n : Nat} (B : Bx lw hg n c) (hd : IsD n (Wd lw hg n c) D) (h1 : 1 ≤ L) (h2 : L ≤ D) (ht : BxA H t (LI lw n, LI hg n) c) (hn : atN (kn.map (entC c)) (keyB (LI lw n) (LI hg n) c) = none) :
    ClC P w (upd H d (DicO P w d (putN (kn.map (entC c)) (keyB (LI lw n) (LI hg n) c) t (.int ((L : Nat) : Int))))) d c (kn ++ [((LI lw n, LI hg n), t, L)]) := by
  have nk := atc_none (k := (LI lw n, LI hg n)) hn
  have K : KnC c (kn ++ [((LI lw n, LI hg n), t, L)]) := ⟨by
    rw [List.map_append, List.map_cons, List.map_nil]
    refine List.nodup_append.mpr ⟨O.kn.nd, List.nodup_cons.mpr ⟨(by simp), List.nodup_nil⟩, fun x hx y hy z => ?_⟩
    rw [List.mem_singleton.mp hy] at z
    rw [z] at hx
    exact nk hx, fun e he => by
    rcases List.mem_append.mp he with he | he
    · exact O.kn.ok e he
    · rw [List.mem_singleton.mp he]
      exact ⟨lw, hg, n, D, B, rfl, hd, h1, h2⟩⟩
  have st : ∀ c' xs, H c' = some (.tup xs) → (upd H d (DicO P w d (putN (kn.map (entC c)) (keyB (LI lw n) (LI hg n) c) t (.int ((L : Nat) : Int))))) c' = some (.tup xs) := fun c' xs e => by
    rw [upd_ne (fun z => by rw [z, O.di.at_] at e; cases e)]
    exact e
  rw [putc_new (k := (LI lw n, LI hg n)) hn] at st ⊢
  refine ⟨⟨upd_same, fun x hx => ?_, ?_⟩, K⟩
  · rw [List.map_append] at hx
    rcases List.mem_append.mp hx with hx | hx
    · exact ⟨(O.di.key x hx).1.mono st, (O.di.key x hx).2⟩
    · rw [List.map_cons, List.map_nil] at hx
      rw [List.mem_singleton.mp hx]
      exact ⟨ht.nk.mono st, keyB_depth _ _ _⟩
  · rw [List.length_map]
    have := K.len
    omega
end Nu
namespace Nu
open PySem PySem.Spec PyProof.Rows L2
theorem pc_ninK {X : Cx} {P : Program} {w : World} {o i : Expr} {td ty : TE} (hP : X.prog = P) (hw : X.w = w) (hu : X.A.units + 64 < cLine) (hi : PE X i ty) (ho : PE X o td) : PC X .In i o (tNIn P w false ty td) := by
  subst hP hw
  exact pc_nin hu hi ho
theorem at_head {x : V} {r : List V} : atI (x :: r) 0 = some x := by
  have h : atI (x :: r) ((0 : Nat) : Int) = some x := atI_nat rfl
  exact h
def sdY (lw hg : Nat → Int) (n : Nat) (c : Option Int) (k : Nat) (m : Int) : LKey := (LI (tlF (yLo lw k m) hg n c) n, LI (thF (yLo lw k m) hg n c) n)
def sdN (lw hg : Nat → Int) (n : Nat) (c : Option Int) (k : Nat) (m : Int) : LKey := (LI (tlF lw (yLo hg k (m - 1)) n c) n, LI (thF lw (yLo hg k (m - 1)) n c) n)
def BxK (c : Option Int) (M : Nat) (k : LKey) : Prop := ∃ lw hg n D, Bx lw hg n c ∧ k = (LI lw n, LI hg n) ∧ IsD n (Wd lw hg n c) D ∧ M ≤ D
def LkC (kn : List LEnt) (lw hg : Nat → Int) (n : Nat) (c : Option Int) (L : Nat) (k : Nat) (m : Int) : Prop := ∃ e ∈ kn, (e.1 = sdY lw hg n c k m ∨ e.1 = sdN lw hg n c k m) ∧ L ≤ e.2.2
def ClsK (c : Option Int) (kn : List LEnt) (L : Nat) (k : LKey) : Prop := ∃ lw hg n, Bx lw hg n c ∧ k = (LI lw n, LI hg n) ∧ ∀ k' m, LkOk lw hg n k' m → LkC kn lw hg n c L k' m
structure LB (H : Hp) (ts : List Addr) (bs : List LKey) (c : Option Int) (M : Nat) : Prop where
  len : ts.length = bs.length
  at_ : ∀ (i : Nat) (t : Addr) (k : LKey), ts[i]? = some t → bs[i]? = some k → BxA H t k c ∧ BxK c M k
theorem LB.mono {H H' : Hp} {ts : List Addr} {bs : List LKey} {c : Option Int} {M : Nat} (h : LB H ts bs c M) (s : ∀ c xs, H c = some (.tup xs) → H' c = some (.tup xs)) : LB H' ts bs c M := ⟨h.len, fun i t k a b => ⟨(h.at_ i t k a b).1.mono s, (h.at_ i t k a b).2⟩⟩
theorem LB.snoc {H : Hp} {ts : List Addr} {bs : List LKey} {c : Option Int} {M : Nat} (h : LB H ts bs c M) {t : Addr} {k : LKey} (e : BxA H t k c) (b : BxK c M k) : LB H (ts ++ [t]) (bs ++ [k]) c M := by
  have l := h.len
  refine ⟨by rw [List.length_append, List.length_append, l]; rfl, fun i t' k' e1 e2 => ?_⟩
  by_cases q : i < ts.length
  · rw [List.getElem?_append_left q] at e1
    rw [List.getElem?_append_left (by omega)] at e2
    exact h.at_ i t' k' e1 e2
  · rw [List.getElem?_append_right (by omega)] at e1
    rw [List.getElem?_append_right (by omega)] at e2
    have z : i - ts.length = 0 := by
      by_cases z : i - ts.length = 0
      · exact z
      · rw [List.getElem?_eq_none (by simp; omega)] at e1
        cases e1
    rw [z] at e1
    rw [show i - bs.length = 0 by omega] at e2
    cases e1
    cases e2
    exact ⟨e, b⟩
structure BhI (P : Program) (w : World) (a : Ad) (H0 : Hp) (p dx dd dc rn : Addr) (L : Nat) (c : Option Int) (kn : List LEnt) (H' : Hp) (us : List Addr) (bs' : List LKey) (kn' : List LEnt) (kd' : List KEnt) : Prop where
  kp : Keep [dc, dd] H0 H'
  nw : H' rn = some (.lst (us.map V.ref))
  lb : LB H' us bs' c L
  cl : ClC P w H' dc c kn'
  ge : ∀ e ∈ kn', L ≤ e.2.2
  sub : ∀ e ∈ kn, e ∈ kn'
  src : ∀ e ∈ kn', e ∈ kn ∨ (e.2.2 = L ∧ e.1 ∈ bs')
  dp : DepO P w a H' p dx dd kd'
  le : bs'.length ≤ kn'.length
section
variable {P : Program} {w : World} {a : Ad} {H0 H' H2 : Hp} {p dx dd dc rn : Addr} {L : Nat} {c : Option Int} {kn kn' : List LEnt} {us : List Addr} {bs' : List LKey} {kd' kd2 : List KEnt}
theorem BhI.dep (h : BhI P w a H0 p dx dd dc rn L c kn H' us bs' kn' kd') (nd : dc ≠ dd) (k : Keep [dd] H' H2) (O : DepO P w a H2 p dx dd kd2) : BhI P w a H0 p dx dd dc rn L c kn H2 us bs' kn' kd2 := by
  have tp := h.dp.tup k
  exact ⟨h.kp.trans (k.mono fun x hx => List.mem_cons_of_mem _ hx), h.dp.lst k _ _ h.nw, h.lb.mono tp, ⟨h.cl.di.mono (k _ _ h.cl.di.at_ fun z => nd (List.mem_singleton.mp z)) tp, h.cl.kn⟩, h.ge, h.sub, h.src, O, h.le⟩
theorem BhI.same (h : BhI P w a H0 p dx dd dc rn L c kn H' us bs' kn' kd') (nd : dc ≠ dd) (s : Same H' H2) : BhI P w a H0 p dx dd dc rn L c kn H2 us bs' kn' kd' := h.dep nd (Keep.same s) (h.dp.same s)
theorem BhI.add (h : BhI P w a H0 p dx dd dc rn L c kn H' us bs' kn' kd') (nd : dc ≠ dd) (hr : H0 rn = none) (L1 : 1 ≤ L) {t : Addr} {D : Nat} {lw hg : Nat → Int} {n : Nat} (B : Bx lw hg n c) (hd : IsD n (Wd lw hg n c) D) (h2 : L ≤ D) (ht : BxA H' t (LI lw n, LI hg n) c) (hn : atN (kn'.map (entC c)) (keyB (LI lw n) (LI hg n) c) = none) :
    BhI P w a H0 p dx dd dc rn L c kn (upd (upd H' dc (DicO P w dc (putN (kn'.map (entC c)) (keyB (LI lw n) (LI hg n) c) t (.int ((L : Nat) : Int))))) rn (.lst (us.map V.ref ++ [V.ref t]))) (us ++ [t]) (bs' ++ [(LI lw n, LI hg n)]) (kn' ++ [((LI lw n, LI hg n), t, L)]) kd' ∧
    Keep [dc, dd, rn] H' (upd (upd H' dc (DicO P w dc (putN (kn'.map (entC c)) (keyB (LI lw n) (LI hg n) c) t (.int ((L : Nat) : Int))))) rn (.lst (us.map V.ref ++ [V.ref t]))) := by
  have C := h.cl.put B hd L1 h2 ht hn
  have rdc : rn ≠ dc := fun z => by
    have h1 := h.nw
    rw [z, h.cl.di.at_] at h1
    cases h1
  have rdd : rn ≠ dd := fun z => by
    have h1 := h.nw
    rw [z, h.dp.di.at_] at h1
    cases h1
  have pdc : p ≠ dc := fun z => by
    have h1 := h.dp.ob
    rw [z, h.cl.di.at_] at h1
    cases h1
  have prn : p ≠ rn := fun z => by
    have h1 := h.dp.ob
    rw [z, h.nw] at h1
    cases h1
  generalize eH : upd H' dc (DicO P w dc (putN (kn'.map (entC c)) (keyB (LI lw n) (LI hg n) c) t (.int ((L : Nat) : Int)))) = H3 at C ⊢
  have st3 : ∀ c' xs, H' c' = some (.tup xs) → H3 c' = some (.tup xs) := fun c' xs e => by
    rw [← eH, upd_ne (fun z => by rw [z, h.cl.di.at_] at e; cases e)]
    exact e
  have h3 : H3 rn = some (.lst (us.map V.ref)) := by
    rw [← eH, upd_ne rdc]
    exact h.nw
  have st4 : ∀ c' xs, H3 c' = some (.tup xs) → (upd H3 rn (.lst (us.map V.ref ++ [V.ref t]))) c' = some (.tup xs) := fun c' xs e => by
    rw [upd_ne (fun z => by rw [z, h3] at e; cases e)]
    exact e
  have st : ∀ c' xs, H' c' = some (.tup xs) → (upd H3 rn (.lst (us.map V.ref ++ [V.ref t]))) c' = some (.tup xs) := fun c' xs e => st4 _ _ (st3 _ _ e)
  refine ⟨⟨fun x u e nx => ?_, by rw [upd_same, List.map_append]; rfl, (h.lb.mono st).snoc (ht.mono st) ⟨lw, hg, n, D, B, rfl, hd, h2⟩, ⟨C.di.mono (by rw [upd_ne (Ne.symm rdc)]; exact C.di.at_) st4, C.kn⟩, fun e he => ?_, fun e he => List.mem_append.mpr (.inl (h.sub e he)), fun e he => ?_, ⟨?_, h.dp.di.mono ?_ st, h.dp.kn⟩, ?_⟩, fun x u e nx => ?_⟩
  · have h1 := h.kp x u e nx
    rw [upd_ne (fun z => by rw [z, hr] at e; cases e), ← eH, upd_ne (fun z => nx (by rw [z]; exact List.mem_cons_self))]
    exact h1
  · rcases List.mem_append.mp he with he | he
    · exact h.ge e he
    · rw [List.mem_singleton.mp he]
      exact Nat.le_refl _
  · rcases List.mem_append.mp he with he | he
    · exact (h.src e he).elim .inl fun z => .inr ⟨z.1, List.mem_append.mpr (.inl z.2)⟩
    · rw [List.mem_singleton.mp he]
      exact .inr ⟨rfl, List.mem_append.mpr (.inr List.mem_cons_self)⟩
  · rw [upd_ne prn, ← eH, upd_ne pdc]
    exact h.dp.ob
  · rw [upd_ne (Ne.symm rdd), ← eH, upd_ne (Ne.symm nd)]
    exact h.dp.di.at_
  · rw [List.length_append, List.length_append]
    have := h.le
    simp only [List.length_singleton]
    omega
  · rw [upd_ne (fun z => nx (by rw [z]; simp)), ← eH, upd_ne (fun z => nx (by rw [z]; simp))]
    exact e
end
def dl2 (L ey en : Nat) (by_ bn : Addr) : List Addr := (if L ≤ ey then [by_] else []) ++ (if L ≤ en then [bn] else [])
section
variable {P : Program} {w : World} {K : PySem.W.Frag} {mg : Str → Option Value} {base : Heap} {a : Ad} {fd : Fd}
def spBehindB (P : Program) (w : World) (a : Ad) : Sp := fun vs H Q _ => ∃ (r p dx dd dc : Addr) (kd : List KEnt) (L : Nat) (c : Option Int) (ts : List Addr) (bs : List LKey) (kn : List LEnt), vs = [.ref r, .int (L : Int), .ref dc, .ref p] ∧ 1 ≤ L ∧ dc ≠ dd ∧ H r = some (.lst (ts.map V.ref)) ∧ LB H ts bs c (L + 1) ∧ ClC P w H dc c kn ∧ (∀ e ∈ kn, L ≤ e.2.2) ∧ DepO P w a H p dx dd kd ∧
  ∀ r' us bs' kn' kd' H', H r' = none → BhI P w a H p dx dd dc r' L c kn H' us bs' kn' kd' → (∀ k ∈ bs, ClsK c kn' L k) → Q (.ref r') H'
theorem ok_claimed_behind (T : Txt K mg a fd) : FnOk P w K mg base CX0 94 a.claimed_behind fd.claimed_behind ["boxes", "depth", "claims", "depths"] (spBehindB P w a) := by
  have G_looks_in := ok_looks_in (P := P) (w := w) (base := base) T
  have G_parted := ok_parted (P := P) (w := w) (base := base) T
  have G_Depths_depth_of := (ok_depth_of (P := P) (w := w) (base := base) T 22)
  refine T.F_claimed_behind.ok sc_claimed_behind (fun vs H Q E h => ?_) (fun cdv A outer s0 H vs Q E hr h => ?_)
  · obtain ⟨r, p, dx, dd, dc, kd, L, c, ts, bs, kn, rfl, _⟩ := h
    rfl
  · obtain ⟨r, p, dx, dd, dc, kd, L, c, ts, bs, kn, rfl, L1, nd, hr0, hB, C0, hge, O0, kk⟩ := h
    refine ⟨_, (pss_cons (ps_set (i := 4) sc_claimed_behind.nd rfl (Or.inl rfl) (pe_lst pa_nil))
    (pss_cons (ps_for PassesOwn.never rfl (pi_list (pv 0)) (pg_name (i := 5) sc_claimed_behind.nd rfl (Or.inl rfl))
      (pss_one (ps_for PassesOwn.never rfl (pi_list (pe_call G_looks_in (hr.mono (by decide)) (by rfl) T.g_looks_in T.F_looks_in.kp T.b_looks_in .nil pass0 (pa_cons (pv 5) pa_nil))) (pg_name (i := 6) sc_claimed_behind.nd rfl (Or.inl rfl))
      (pss_cons (ps_setLc (i := 7) (own := [("side", 8)]) (g := gName 8) (by rfl) sc_claimed_behind.nd rfl rfl (sw_true rfl rfl rfl (by decide +kernel)) (pi_tup (pe_call G_parted (hr.mono (by decide)) (by rfl) T.g_parted T.F_parted.kp T.b_parted .nil pass0 (pa_cons (pv 5) (pa_cons (pv 6) pa_nil)))) (blkOk_by (own := [("side", 8)]) (N := ["boxes", "depth", "claims", "depths", "new", "box", "look", "deep", "side"]) (sc := defScope s_claimed_behind) (by decide +kernel)) (fun _ _ _ _ _ => pg_name (i := 8) sc_claimed_behind.nd rfl (Or.inl rfl)) (fun _ _ _ _ _ => (pts_one (pt_cmpR op_ge (pe_meth (pv 3) T.cl T.m_Depths_depth_of G_Depths_depth_of (hr.mono (by decide)) T.b_Depths_depth_of .nil pass0 (pa_cons (pv 8) pa_nil)) (pv 1) (nomark _)))) (fun _ _ _ _ _ => (pv 8)))
    (pss_one (ps_if (pt_not (pt_val (pe_callB (cr_any rfl) (by rfl) T.n_any (by decide +kernel) (pa_cons (pe_lc (own := [("side", 8)]) (g := gName 8) (by rfl) sc_claimed_behind.nd (pi_list (pv 7)) (blkOk_by (own := [("side", 8)]) (N := ["boxes", "depth", "claims", "depths", "new", "box", "look", "deep", "side"]) (sc := defScope s_claimed_behind) (by decide +kernel)) (fun _ _ _ _ _ => pg_name (i := 8) sc_claimed_behind.nd rfl (Or.inl rfl)) (fun _ _ _ _ _ => pts_nil) (fun _ _ _ _ _ => (pe_cmp (pc_ninK (P := P) (w := w) rfl rfl (by exact hr.units) (pv 8) (pv 2))))) pa_nil)))) (pss_cons (ps_dputN hr.units (pv 2) (pe_ix ix_list (pv 7) pe_int (fun _ _ => rfl)) (pv 1) rfl)
    (pss_one (ps_expr (pe_bm PySem.F.plainAttrs_list PySem.F.slot_list_append PySem.F.type_list_append mt_append (pv 4) (pa_cons (pe_ix ix_list (pv 7) pe_int (fun _ _ => rfl)) pa_nil))))) pss_nil))))))
    (pss_one (ps_ret (pv 4))))), ?_⟩
    refine ⟨Nat.zero_le _, fun rn nrn => ?_⟩
    refine gName_go ?_
    try dsimp only
    refine seq_go ?_
    have s0' : Same H (upd H rn (.lst [])) := same_upd nrn
    have I0 : BhI P w a H p dx dd dc rn L c kn (upd H rn (.lst [])) [] [] kn kd := ⟨Keep.same s0', upd_same, ⟨rfl, fun i t k e => by simp at e⟩, ⟨C0.di.mono (s0' _ _ C0.di.at_) fun c' xs e => s0' _ _ e, C0.kn⟩, hge, fun e he => he, fun e he => .inl he, O0.same s0', Nat.zero_le _⟩
    have rl : ∀ {H' us bs' kn' kd'}, BhI P w a H p dx dd dc rn L c kn H' us bs' kn' kd' → H' r = some (.lst (ts.map V.ref)) := fun h => h.kp _ _ hr0 fun z => by
      rcases List.mem_cons.mp z with z | z
      · rw [z, C0.di.at_] at hr0
        cases hr0
      · rw [List.mem_singleton.mp z, O0.di.at_] at hr0
        cases hr0
    have tup0 : ∀ {H' us bs' kn' kd'}, BhI P w a H p dx dd dc rn L c kn H' us bs' kn' kd' → ∀ c' xs, H c' = some (.tup xs) → H' c' = some (.tup xs) := fun h c' xs e => h.kp _ _ e fun z => by
      rcases List.mem_cons.mp z with z | z
      · rw [z, C0.di.at_] at e
        cases e
      · rw [List.mem_singleton.mp z, O0.di.at_] at e
        cases e
    refine ⟨_, rfl, r, rfl, ⟨_, SqL.of (rl I0)⟩, ?_⟩
    refine for_list (K := K) (a := r) (xs := ts.map V.ref) (fun j σ H' => ∃ (us : List Addr) (bs' : List LKey) (kn' : List LEnt) (kd' : List KEnt) (v5 v6 v7 v8 : Option V), σ = [some (.ref r), some (.int (L : Int)), some (.ref dc), some (.ref p), some (.ref rn), v5, v6, v7, none] ∧ BhI P w a H p dx dd dc rn L c kn H' us bs' kn' kd' ∧ ∀ i k, i < j → bs[i]? = some k → ClsK c kn' L k)
      ⟨[], [], kn, kd, none, none, none, none, rfl, I0, fun i k z => absurd z (Nat.not_lt_zero _)⟩ (fun j σ H' _ ⟨_, _, _, _, _, _, _, _, _, h, _⟩ => SqL.of (rl h)) ?_ ?_
    · rintro j x σ H1 hx ⟨us, bs', kn', kd', v5, v6, v7, v8, rfl, I1, hcl⟩
      obtain ⟨t, et, rfl⟩ : ∃ t, ts[j]? = some t ∧ x = V.ref t := by
        rw [List.getElem?_map] at hx
        obtain ⟨t, e1, e2⟩ := Option.map_eq_some_iff.mp hx
        exact ⟨t, e1, e2.symm⟩
      have hj : j < bs.length := by
        rw [← hB.len]
        exact (List.getElem?_eq_some_iff.mp et).1
      obtain ⟨kb, eb⟩ : ∃ b, bs[j]? = some b := ⟨_, List.getElem?_eq_getElem hj⟩
      obtain ⟨hbx, lw, hg, n, D, X, rfl, iD, lD⟩ := hB.at_ j t kb et eb
      obtain ⟨bp, bq, t1, t2, t3⟩ := hbx.mono (tup0 I1)
      have B1 : BoxH H1 (.ref t) lw hg n n c := ⟨t, bp, bq, rfl, t1, t2, t3⟩
      refine gName_go ?_
      refine ⟨_, rfl, .ref t, lw, hg, n, c, rfl, B1, X.nn, fun i hi => ⟨(X.sm i hi).1, (X.sm i hi).2, X.tg.le i hi⟩, fun rl2 ls2 H2 s2 nr2 hr2 hT2 => ?_⟩
      have I2 := I1.same nd s2
      have B2 := B1.same s2
      refine ⟨rl2, rfl, ⟨_, SqL.of hr2⟩, ?_⟩
      have hlk : (lks lw hg n).length ≤ 21 := Nat.le_trans (lks_len X.sm) (by have := X.nn; omega)
      have ndd : rl2 ∉ [dc, dd, rn] := fun z => by
        rcases List.mem_cons.mp z with z | z
        · rw [z, I1.cl.di.at_] at nr2
          cases nr2
        · rcases List.mem_cons.mp z with z | z
          · rw [z, I1.dp.di.at_] at nr2
            cases nr2
          · rw [List.mem_singleton.mp z, I1.nw] at nr2
            cases nr2
      have tupL : ∀ {H' : Hp}, Keep [dc, dd, rn] H2 H' → ∀ c' xs, H2 c' = some (.tup xs) → H' c' = some (.tup xs) := fun k c' xs e => k _ _ e fun z => by
        rcases List.mem_cons.mp z with z | z
        · rw [z, I2.cl.di.at_] at e
          cases e
        · rcases List.mem_cons.mp z with z | z
          · rw [z, I2.dp.di.at_] at e
            cases e
          · rw [List.mem_singleton.mp z, I2.nw] at e
            cases e
      refine for_list (K := K) (a := rl2) (xs := ls2.map V.ref) (fun i σ H' => ∃ (us : List Addr) (bs' : List LKey) (kn2 : List LEnt) (kd' : List KEnt) (v6 v7 : Option V), σ = [some (.ref r), some (.int (L : Int)), some (.ref dc), some (.ref p), some (.ref rn), some (.ref t), v6, v7, none] ∧ Keep [dc, dd, rn] H2 H' ∧ BhI P w a H p dx dd dc rn L c kn H' us bs' kn2 kd' ∧ (∀ e ∈ kn', e ∈ kn2) ∧ ∀ i' x, i' < i → (lks lw hg n)[i']? = some x → ∀ (k : Nat) (m : Int), x = [(k : Int), m] → LkC kn2 lw hg n c L k m)
        ⟨us, bs', kn', kd', v6, v7, rfl, Keep.refl _ _, I2, fun e he => he, fun i' x z => absurd z (Nat.not_lt_zero _)⟩ (fun i σ H' _ ⟨_, _, _, _, _, _, _, k, _⟩ => SqL.of (k _ _ hr2 ndd)) ?_ ?_
      · clear v6 v7 I0 hcl
        rintro i x σ H3 hx ⟨us, bs', kn2, kd', v6, v7, rfl, k3, I3, hsub, hlc⟩
        obtain ⟨u, eu, rfl⟩ : ∃ t, ls2[i]? = some t ∧ x = V.ref t := by
          rw [List.getElem?_map] at hx
          obtain ⟨t, e1, e2⟩ := Option.map_eq_some_iff.mp hx
          exact ⟨t, e1, e2.symm⟩
        obtain ⟨x, ex, hu⟩ := hT2.get eu
        obtain ⟨k, m, hk, b1, b2, rfl⟩ := mem_lks.mp (List.mem_of_getElem? ex)
        have hu3 := tupL k3 _ _ hu
        have B3 := B2.mono (tupL k3)
        have lk : LkOk lw hg n k m := ⟨hk, b1, b2⟩
        have y := X.yes hk (show lw k < m by omega) b2
        have z := X.no hk (show lw k < m by omega) b2
        have ty := X.tg.yes hk (show lw k < m by omega) b2
        have tn := X.tg.no hk (show lw k < m by omega) b2
        obtain ⟨ey, iy⟩ := y.1.has
        obtain ⟨en, in_⟩ := z.1.has
        have ge := look_ge X lk iD (by rw [← y.2.2]; exact iy) (by rw [← z.2.2]; exact in_)
        have xs := X.wid_nn
        refine gName_go ?_
        try dsimp only
        refine seq_go ?_
        refine ⟨_, rfl, _, rfl, .ref t, u, lw, hg, n, k, m, c, rfl, B3, hu3, X.nn, hk, X.oc, ty.2, tn.2, fun pp vy vn H4 s4 hp By Bn => ?_⟩
        obtain ⟨by_, py, qy, rfl, hy1, hy2, hy3⟩ := id By
        obtain ⟨bn, pn, qn, rfl, hn1, hn2, hn3⟩ := id Bn
        have I4 := I3.same nd s4
        refine ⟨pp, rfl, ⟨_, SqT.of hp⟩, fun Dl nD => lc_tup (K := K) (a := pp) (xs := [V.ref by_, V.ref bn]) (fun j H' => Keep [dd] H4 H' ∧ ∃ kd', DepO P w a H' p dx dd kd' ∧ H' Dl = some (.lst (((match j with | 0 => [] | 1 => (if L ≤ ey then [by_] else []) | _ => dl2 L ey en by_ bn) : List Addr).map V.ref))) ⟨Keep.same (same_upd nD), kd', I4.dp.same (same_upd nD), upd_same⟩ (fun j H' _ ⟨k', _⟩ => SqT.of (I4.dp.tup k' _ _ hp)) ?_ ?_⟩
        · have dpl : ∀ {H' : Hp} {kd : List KEnt} {xs : List V}, DepO P w a H' p dx dd kd → H' Dl = some (.lst xs) → ∀ ys, DepO P w a (upd H' Dl (.lst ys)) p dx dd kd := fun {H' kd xs} O hD ys => by
            refine ⟨?_, O.di.mono ?_ fun c' xs' e' => ?_, O.kn⟩
            · rw [upd_ne (fun z => by have h := O.ob; rw [z, hD] at h; cases h)]
              exact O.ob
            · rw [upd_ne (fun z => by have h := O.di.at_; rw [z, hD] at h; cases h)]
              exact O.di.at_
            · rw [upd_ne (fun z => by rw [z, hD] at e'; cases e')]
              exact e'
          have ndl := I4.dp.nd nD
          have kpl : ∀ {H' : Hp} {u : HO}, Keep [dd] H4 H' → Keep [dd] H4 (upd H' Dl u) := fun {H' u} k' c' o e n' => by
            rw [upd_ne (fun z => by rw [z, nD] at e; cases e)]
            exact k' c' o e n'
          rintro j x H5 hx ⟨k5, kd5, O5, hD5⟩
          match j, hx with
          | 0, hx =>
            cases hx
            refine ⟨wipe1 _ _ _, ?_⟩
            refine ⟨_, rfl, p, dx, _, rfl, O5.ob, kno (by decide +kernel), _, rfl, p, dx, dd, kd5, .ref by_, _, _, n, c, rfl, O5, By.mono (I4.dp.tup k5), y.1, by omega, fun D0 H6 kd6 k6 O6 i6 => ⟨_, rfl, _, _, rfl, rfl, _, rfl, ?_⟩⟩
            have e0 := i6.uniq iy
            subst e0
            have hD6 := k6 _ _ hD5 ndl
            by_cases c1 : ((D0 : Nat) : Int) ≥ (L : Int)
            · rw [decide_eq_true c1]
              refine iteT ?_
              refine ⟨_, rfl, _, hD6, small1000 (Nat.zero_le _), kpl (k5.trans k6), kd6, dpl O6 hD6 _, ?_⟩
              rw [upd_same, if_pos (show L ≤ D0 by omega)]
              rfl
            · rw [decide_eq_false c1]
              refine iteF ?_
              refine ⟨k5.trans k6, kd6, O6, ?_⟩
              rw [hD6, if_neg (show ¬ L ≤ D0 by omega)]
              rfl
          | 1, hx =>
            cases hx
            refine ⟨wipe1 _ _ _, ?_⟩
            refine ⟨_, rfl, p, dx, _, rfl, O5.ob, kno (by decide +kernel), _, rfl, p, dx, dd, kd5, .ref bn, _, _, n, c, rfl, O5, Bn.mono (I4.dp.tup k5), z.1, by omega, fun D0 H6 kd6 k6 O6 i6 => ⟨_, rfl, _, _, rfl, rfl, _, rfl, ?_⟩⟩
            have e0 := i6.uniq in_
            subst e0
            have hD6 := k6 _ _ hD5 ndl
            by_cases c1 : ((D0 : Nat) : Int) ≥ (L : Int)
            · rw [decide_eq_true c1]
              refine iteT ?_
              refine ⟨_, rfl, _, hD6, ?_, kpl (k5.trans k6), kd6, dpl O6 hD6 _, ?_⟩
              · show (List.map V.ref (if L ≤ ey then [by_] else [])).length < sizeLine
                split <;> exact small1000 (by simp)
              · rw [upd_same]
                show _ = some (HO.lst ((dl2 L ey D0 by_ bn).map V.ref))
                unfold dl2
                rw [if_pos (show L ≤ D0 by omega), List.map_append]
                rfl
            · rw [decide_eq_false c1]
              refine iteF ?_
              refine ⟨k5.trans k6, kd6, O6, ?_⟩
              rw [hD6]
              show some (HO.lst ((if L ≤ ey then [by_] else []).map V.ref)) = some (HO.lst ((dl2 L ey D0 by_ bn).map V.ref))
              unfold dl2
              rw [if_neg (show ¬ L ≤ D0 by omega), List.append_nil]
        · rintro H5 ⟨k5, kd5, O5, hD5⟩
          have hD5 : H5 Dl = some (.lst ((dl2 L ey en by_ bn).map V.ref)) := hD5
          have I5 := I4.dep nd k5 O5
          refine gName_go ?_
          try dsimp only
          have tp5 : ∀ c' xs, H4 c' = some (.tup xs) → H5 c' = some (.tup xs) := I4.dp.tup k5
          have bxY : BxA H5 by_ (sdY lw hg n c k m) c := ⟨py, qy, tp5 _ _ hy1, tp5 _ _ hy2, tp5 _ _ hy3⟩
          have bxN : BxA H5 bn (sdN lw hg n c k m) c := ⟨pn, qn, tp5 _ _ hn1, tp5 _ _ hn2, tp5 _ _ hn3⟩
          obtain ⟨dlp, edl⟩ : ∃ dlp : List (Addr × LKey), dlp = (if L ≤ ey then [(by_, sdY lw hg n c k m)] else []) ++ (if L ≤ en then [(bn, sdN lw hg n c k m)] else []) := ⟨_, rfl⟩
          have hdl : dl2 L ey en by_ bn = dlp.map (·.1) := by
            rw [edl]
            unfold dl2
            split <;> split <;> rfl
          have hin : ∀ x ∈ dlp, BxA H5 x.1 x.2 c ∧ (x.2 = sdY lw hg n c k m ∨ x.2 = sdN lw hg n c k m) ∧ ∃ lw' hg' n' D', Bx lw' hg' n' c ∧ x.2 = (LI lw' n', LI hg' n') ∧ IsD n' (Wd lw' hg' n' c) D' ∧ L ≤ D' := fun x hx => by
            rw [edl] at hx
            rcases List.mem_append.mp hx with hx | hx
            · by_cases q : L ≤ ey
              · rw [if_pos q] at hx
                rw [List.mem_singleton.mp hx]
                exact ⟨bxY, .inl rfl, _, _, _, ey, y.1, rfl, iy, q⟩
              · rw [if_neg q] at hx
                cases hx
            · by_cases q : L ≤ en
              · rw [if_pos q] at hx
                rw [List.mem_singleton.mp hx]
                exact ⟨bxN, .inr rfl, _, _, _, en, z.1, rfl, in_, q⟩
              · rw [if_neg q] at hx
                cases hx
          have hne : dlp ≠ [] := by
            rw [edl]
            have : L ≤ ey ∨ L ≤ en := by omega
            rcases this with q | q
            · rw [if_pos q]
              exact fun z => by cases z
            · rw [if_pos q]
              split <;> exact fun z => by cases z
          have hll : dlp.length ≤ 2 := by
            rw [edl]
            split <;> split <;> simp
          rw [hdl, List.map_map] at hD5
          refine ⟨_, rfl, Dl, rfl, ⟨_, SqL.of hD5⟩, fun D2 nD2 => lc_list (K := K) (a := Dl) (xs := dlp.map (V.ref ∘ (·.1))) (BlP H5 D2 (fun x : Addr × LKey => (atN (kn2.map (entC c)) (keyB x.2.1 x.2.2 c)).isSome) dlp) (BlP.start nD2) (fun j H' _ h => SqL.of (h.1 _ _ hD5)) ?_ ?_⟩
          · rintro j x H6 hx h
            rw [List.getElem?_map] at hx
            obtain ⟨q, eq, rfl⟩ := Option.map_eq_some_iff.mp hx
            have hq := hin q (List.mem_of_getElem? eq)
            refine ⟨rfl, ?_⟩
            dsimp only [tYes]
            rw [if_pos rfl]
            refine ⟨_, rfl, _, rfl, dc, q.1, _, keyB q.2.1 q.2.2 c, rfl, rfl, (I5.same nd h.1).cl.di, (hq.1.mono fun c' xs e => h.1 _ _ e).nk, keyB_depth _ _ _, ?_⟩
            have ex : ∀ b : Bool, (false ^^ b) = b := fun b => by cases b <;> rfl
            rw [ex]
            exact h.step nD2 (Same.refl _) eq (by omega)
          · intro H6 h
            rw [List.length_map] at h
            obtain ⟨s6, hD2⟩ := h.all
            have I6 := I5.same nd s6
            have kAll : Keep [dc, dd, rn] H2 H6 := ((k3.trans (Keep.same s4)).trans (k5.mono fun x hx => List.mem_cons_of_mem _ (by rw [List.mem_singleton.mp hx]; exact List.mem_cons_self))).trans (Keep.same s6)
            refine ⟨D2, _, rfl, SqL.of hD2, ?_⟩
            cases qa : (dlp.map fun x : Addr × LKey => (atN (kn2.map (entC c)) (keyB x.2.1 x.2.2 c)).isSome).any id with
            | true =>
              refine ⟨_, rfl, iteF ?_⟩
              refine ⟨us, bs', kn2, kd5, _, _, rfl, kAll, I6, hsub, fun i' x' hi' hx' k' m' e' => ?_⟩
              by_cases q : i' < i
              · exact hlc i' x' q hx' k' m' e'
              · have : i' = i := by omega
                subst this
                rw [ex] at hx'
                cases hx'
                injection e' with z1 z2
                injection z2 with z2 _
                have : k = k' := by omega
                subst this
                subst z2
                obtain ⟨b, hb, hb2⟩ := List.any_eq_true.mp qa
                obtain ⟨x, hx, rfl⟩ := List.mem_map.mp hb
                have hb2 : (atN (kn2.map (entC c)) (keyB x.2.1 x.2.2 c)).isSome = true := hb2
                obtain ⟨v, hv⟩ := Option.isSome_iff_exists.mp hb2
                unfold atN at hv
                obtain ⟨ye, hye, _⟩ := Option.map_eq_some_iff.mp hv
                obtain ⟨e, he, ek, _⟩ := atc_key (k := x.2) hye
                exact ⟨e, he, by rw [ek]; exact (hin x hx).2.1, I6.ge e he⟩
            | false =>
              refine ⟨_, rfl, iteT ?_⟩
              obtain ⟨⟨ft, fk⟩, rest, ed⟩ : ∃ x r, dlp = x :: r := by
                cases dlp with
                | nil => exact absurd rfl hne
                | cons x r => exact ⟨x, r, rfl⟩
              have hf := hin (ft, fk) (by rw [ed]; exact List.mem_cons_self)
              obtain ⟨hfa, hfs, lwf, hgf, nf, Df, Xf, ekf, iDf, lDf⟩ := hf
              have ekf : fk = (LI lwf nf, LI hgf nf) := ekf
              subst ekf
              have hnone : atN (kn2.map (entC c)) (keyB (LI lwf nf) (LI hgf nf) c) = none := by
                cases q : atN (kn2.map (entC c)) (keyB (LI lwf nf) (LI hgf nf) c) with
                | none => rfl
                | some v =>
                  have : (dlp.map fun x : Addr × LKey => (atN (kn2.map (entC c)) (keyB x.2.1 x.2.2 c)).isSome).any id = true := List.any_eq_true.mpr ⟨true, List.mem_map.mpr ⟨(ft, (LI lwf nf, LI hgf nf)), by rw [ed]; exact List.mem_cons_self, by show (atN (kn2.map (entC c)) (keyB (LI lwf nf) (LI hgf nf) c)).isSome = true; rw [q]; rfl⟩, rfl⟩
                  rw [qa] at this
                  cases this
              have hfa6 : BxA H6 ft (LI lwf nf, LI hgf nf) c := hfa.mono fun c' xs e => s6 _ _ e
              have add := I6.add nd nrn L1 Xf iDf lDf hfa6 hnone
              have hD6 := s6 _ _ hD5
              rw [ed] at hD6
              have hD6 : H6 Dl = some (.lst (V.ref ft :: rest.map (V.ref ∘ (·.1)))) := hD6
              have ndc : Dl ≠ dc := fun z => by
                rw [z, I6.cl.di.at_] at hD6
                cases hD6
              have rdc : rn ≠ dc := fun z => by
                have h1 := I6.nw
                rw [z, I6.cl.di.at_] at h1
                cases h1
              refine seq_go ?_
              refine ⟨_, rfl, _, rfl, _, rfl, Dl, _, 0, _, rfl, rfl, SqL.of hD6, at_head, dc, ft, _, keyB (LI lwf nf) (LI hgf nf) c, rfl, rfl, I6.cl.di, hfa6.nk, keyB_depth _ _ _, ?_⟩
              refine next_go ?_
              refine ⟨_, rfl, .inl ⟨rfl, _, SqL.of (by rw [upd_ne rdc]; exact I6.nw)⟩, ?_⟩
              refine ⟨_, rfl, Dl, _, 0, _, rfl, rfl, SqL.of (by rw [upd_ne ndc]; exact hD6), at_head, rn, us.map V.ref, _, rfl, rfl, by rw [upd_ne rdc]; exact I6.nw, ?_, ?_⟩
              · rw [List.length_map, I6.lb.len, sizeLine_eq]
                have := I6.le
                have := I6.cl.kn.len
                omega
              · refine ⟨us ++ [ft], bs' ++ [(LI lwf nf, LI hgf nf)], kn2 ++ [((LI lwf nf, LI hgf nf), ft, L)], kd5, _, _, rfl, kAll.trans add.2, add.1, fun e he => List.mem_append.mpr (.inl (hsub e he)), fun i' x' hi' hx' k' m' e' => ?_⟩
                by_cases q : i' < i
                · obtain ⟨e, he, ze⟩ := hlc i' x' q hx' k' m' e'
                  exact ⟨e, List.mem_append.mpr (.inl he), ze⟩
                · have : i' = i := by omega
                  subst this
                  rw [ex] at hx'
                  cases hx'
                  injection e' with z1 z2
                  injection z2 with z2 _
                  have : k = k' := by omega
                  subst this
                  subst z2
                  exact ⟨_, List.mem_append.mpr (.inr List.mem_cons_self), hfs, Nat.le_refl _⟩
      · rintro σ H3 ⟨us, bs', kn2, kd', v6, v7, rfl, k3, I3, hsub, hlc⟩
        refine ⟨us, bs', kn2, kd', _, _, _, none, rfl, I3, fun i k hi hk => ?_⟩
        by_cases q : i < j
        · obtain ⟨lw', hg', n', X', ek, h⟩ := hcl i k q hk
          exact ⟨lw', hg', n', X', ek, fun k' m l => let ⟨e, he, z⟩ := h k' m l; ⟨e, hsub e he, z⟩⟩
        · have : i = j := by omega
          subst this
          rw [eb] at hk
          cases hk
          refine ⟨lw, hg, n, X, rfl, fun k' m l => ?_⟩
          obtain ⟨i', hi'⟩ := List.getElem?_of_mem (mem_lks.mpr ⟨k', m, l.1, l.2.1, l.2.2, rfl⟩)
          exact hlc i' _ (by rw [List.length_map, hT2.len]; exact (List.getElem?_eq_some_iff.mp hi').1) hi' k' m rfl
    · rintro σ H1 ⟨us, bs', kn', kd', v5, v6, v7, v8, rfl, I1, hcl⟩
      refine ⟨_, rfl, kk rn us bs' kn' kd' H1 nrn I1 fun k hk => ?_⟩
      obtain ⟨i, hi⟩ := List.getElem?_of_mem hk
      exact hcl i k (by rw [List.length_map, hB.len]; exact (List.getElem?_eq_some_iff.mp hi).1) hi
end
end Nu
namespace Nu
open PySem PySem.Spec PyProof.Rows L2
theorem walk_rc {lo c : Int} {n : Nat} : Walk (Itc lo c n) n (fun _ => True) (fun i H x H' => x = .int (lo + (i : Nat) * c) ∧ H' = H) := ⟨fun i H hi _ => hi, fun H _ => Nat.le_refl _, fun i H v H' hi _ y => ⟨y.2, y.1⟩⟩
theorem walk_itemsN {P : Program} {w : World} {d : Addr} {o : Obj} {kvs : List NEnt} : Walk (ItiN P w d o kvs) kvs.length (fun H => H d = some (.frz o (DicO P w d kvs))) (fun i H x H' => ∃ T k a v, kvs[i]? = some (k, a, v) ∧ x = .ref T ∧ H T = none ∧ H' = upd H T (.tup [.ref a, v])) := ⟨fun i H hi q => ⟨q, hi⟩, fun H q => ⟨q, Nat.le_refl _⟩, fun i H v H' hi q y => y⟩
theorem tlh_congr {lw hg lw' hg' : Nat → Int} {n : Nat} {c : Option Int} (h1 : ∀ i, i < n → lw i = lw' i) (h2 : ∀ i, i < n → hg i = hg' i) : LI (tlF lw hg n c) n = LI (tlF lw' hg' n c) n ∧ LI (thF lw hg n c) n = LI (thF lw' hg' n c) n := by
  have s1 := sumF_congr h1
  have s2 := sumF_congr h2
  refine ⟨LI_congr fun i hi => ?_, LI_congr fun i hi => ?_⟩
  · unfold tlF
    rw [s2, h1 i hi, h2 i hi]
  · unfold thF
    rw [s1, h1 i hi, h2 i hi]
theorem yLo_congr {f g : Nat → Int} {n k : Nat} {m : Int} (h : ∀ i, i < n → f i = g i) : ∀ i, i < n → yLo f k m i = yLo g k m i := fun i hi => by
  unfold yLo
  rw [h i hi]
theorem lof_LI {f : Nat → Int} {n i : Nat} (hi : i < n) : lof (LI f n) i = f i := lof_at (LI_at f hi)
def rowE (e : LEnt) : RW := (e.1, ((e.2.2 : Nat) : Int))
/-- what is claimed, and closed -/
def Clo (c : Option Int) (kn : List LEnt) (e : LEnt) : Prop := e.2.2 ≤ 1 ∨ ∃ L, ClsK c kn L e.1 ∧ e.2.2 ≤ L + 1
theorem rows_shown {c : Option Int} {kn : List LEnt} (K : KnC c kn) (h : ∀ e ∈ kn, Clo c kn e) : (∀ x ∈ kn.map rowE, hw x c) ∧ ∀ x ∈ kn.map rowE, shn (kn.map rowE) x c := by
  have hws : ∀ e ∈ kn, ∃ lw hg n, Bx lw hg n c ∧ e.1 = (LI lw n, LI hg n) ∧ 1 ≤ n ∧ LI lw n ≠ LI hg n := fun e he => by
    obtain ⟨lw, hg, n, D, B, k, iD, h1, h2⟩ := K.ok e he
    refine ⟨lw, hg, n, B, k, ?_, fun z => ?_⟩
    · by_cases q : n = 0
      · subst q
        have := iD.uniq (IsD.zero fun f g _ _ i hi => absurd hi (Nat.not_lt_zero _))
        omega
      · omega
    · have e0 : ∀ i, i < n → lw i = hg i := (LI_eq z).2
      have : lks lw hg n = [] := by
        cases q : lks lw hg n with
        | nil => rfl
        | cons x r =>
          obtain ⟨k', m, hk, b1, b2, _⟩ := mem_lks.mp (show x ∈ lks lw hg n by rw [q]; exact List.mem_cons_self)
          have := e0 k' hk
          omega
      have := iD.uniq (B.flat this)
      omega
  refine ⟨fun x hx => ?_, fun x hx => ?_⟩
  · obtain ⟨e, he, rfl⟩ := List.mem_map.mp hx
    obtain ⟨lw, hg, n, B, k, n1, _⟩ := hws e he
    obtain ⟨⟨ls, hs⟩, t, d⟩ := e
    have k : (ls, hs) = (LI lw n, LI hg n) := k
    cases k
    show isB (lof (LI lw n)) (lof (LI hg n)) (LI lw n).length (LI hg n).length ∧ ¬ badC (sumF (lof (LI lw n)) (LI lw n).length) (sumF (lof (LI hg n)) (LI lw n).length) c
    rw [LI_len, LI_len]
    refine ⟨⟨rfl, n1, B.nn, fun i hi => ?_⟩, ?_⟩
    · rw [lof_LI hi, lof_LI hi]
      have := B.sm i hi
      have := B.tg.le i hi
      omega
    · rw [sumF_congr (f := lof (LI lw n)) (g := lw) fun i hi => lof_LI hi, sumF_congr (f := lof (LI hg n)) (g := hg) fun i hi => lof_LI hi]
      exact B.tg.nb
  · obtain ⟨e, he, rfl⟩ := List.mem_map.mp hx
    obtain ⟨lw, hg, n, B, k, n1, ne⟩ := hws e he
    have hc := h e he
    obtain ⟨_, _, _, _, _, _, _, g1, _⟩ := K.ok e he
    obtain ⟨⟨ls, hs⟩, t, d⟩ := e
    have k : (ls, hs) = (LI lw n, LI hg n) := k
    cases k
    have g1 : 1 ≤ d := g1
    have l1 : ∀ i, i < n → lof (LI lw n) i = lw i := fun i hi => lof_LI hi
    have l2 : ∀ i, i < n → lof (LI hg n) i = hg i := fun i hi => lof_LI hi
    have key : ∀ k m, LkOk (lof (LI lw n)) (lof (LI hg n)) n k m → lvs (kn.map rowE) (lof (LI lw n)) (lof (LI hg n)) n c k m (((d : Nat) : Int) - 1) := fun k m lk => by
      have lk' : LkOk lw hg n k m := ⟨lk.1, by rw [← l1 k lk.1]; exact lk.2.1, by rw [← l2 k lk.1]; exact lk.2.2⟩
      have eY := tlh_congr (c := c) (yLo_congr (k := k) (m := m) l1) l2
      have eN := tlh_congr (c := c) l1 (yLo_congr (k := k) (m := m - 1) l2)
      have hc : d ≤ 1 ∨ ∃ L, ClsK c kn L (LI lw n, LI hg n) ∧ d ≤ L + 1 := hc
      unfold lvs
      rw [eY.1, eY.2, eN.1, eN.2]
      rcases hc with hc | ⟨L, ⟨lw', hg', n', B', ek, cl⟩, hd⟩
      · exact .inl (.inl (by omega))
      · injection ek with e1 e2
        obtain ⟨en, f1⟩ := LI_eq e1
        obtain ⟨_, f2⟩ := LI_eq e2
        subst en
        obtain ⟨e', he', hs, hl⟩ := cl k m ⟨lk'.1, by rw [← f1 k lk'.1]; exact lk'.2.1, by rw [← f2 k lk'.1]; exact lk'.2.2⟩
        have fY := tlh_congr (c := c) (yLo_congr (k := k) (m := m) f1) f2
        have fN := tlh_congr (c := c) f1 (yLo_congr (k := k) (m := m - 1) f2)
        have mem : rowE e' ∈ kn.map rowE := List.mem_map_of_mem he'
        have le : ((d : Nat) : Int) - 1 ≤ (rowE e').2 := by
          show ((d : Nat) : Int) - 1 ≤ ((e'.2.2 : Nat) : Int)
          omega
        rcases hs with hs | hs
        · refine .inl (.inr ⟨_, mem, ?_, le⟩)
          show e'.1 = _
          rw [hs]
          unfold sdY
          rw [fY.1, fY.2]
        · refine .inr (.inr ⟨_, mem, ?_, le⟩)
          show e'.1 = _
          rw [hs]
          unfold sdN
          rw [fN.1, fN.2]
    refine .inr ?_
    show LI (tlF (lof (LI lw n)) (lof (LI hg n)) (LI lw n).length c) (LI lw n).length = LI lw n ∧ LI (thF (lof (LI lw n)) (lof (LI hg n)) (LI lw n).length c) (LI lw n).length = LI hg n ∧ LI lw n ≠ LI hg n ∧ ∀ k m, LkOk (lof (LI lw n)) (lof (LI hg n)) (LI lw n).length k m → lvs (kn.map rowE) (lof (LI lw n)) (lof (LI hg n)) (LI lw n).length c k m (((d : Nat) : Int) - 1)
    rw [LI_len]
    have e0 := tlh_congr (c := c) l1 l2
    refine ⟨?_, ?_, ne, key⟩
    · rw [e0.1]
      exact LI_congr fun i hi => B.tg.tl i hi
    · rw [e0.2]
      exact LI_congr fun i hi => B.tg.th i hi
end Nu
namespace Nu
open PySem PySem.Spec PyProof.Rows L2
theorem step_go {Qk : V → Hp → Prop} {x : V} {Hx : Hp} (R : Hp → Prop) (hx : R Hx) (h : ∀ H4, R H4 → Qk x H4) : Qk x Hx := h _ hx
theorem RwsH.snoc {H : Hp} {ts : List Addr} {rs : List RW} {t : Addr} {x : RW} (h : RwsH H ts rs) (e : RwH H t x) : RwsH H (ts ++ [t]) (rs ++ [x]) := by
  have l := h.len
  refine ⟨by rw [List.length_append, List.length_append, l]; rfl, fun i t' k' e1 e2 => ?_⟩
  by_cases q : i < ts.length
  · rw [List.getElem?_append_left q] at e1
    rw [List.getElem?_append_left (by omega)] at e2
    exact h.at_ i t' k' e1 e2
  · rw [List.getElem?_append_right (by omega)] at e1
    rw [List.getElem?_append_right (by omega)] at e2
    have z : i - ts.length = 0 := by
      by_cases z : i - ts.length = 0
      · exact z
      · rw [List.getElem?_eq_none (by simp; omega)] at e1
        cases e1
    rw [z] at e1
    rw [show i - rs.length = 0 by omega] at e2
    cases e1
    cases e2
    exact e
theorem rows_ok {x : RW} {c : Option Int} (h : hw x c) : RwOk x := by
  have ib := h.1
  have n3 := ib.2.2.1
  have e := ib.1
  refine ⟨by omega, by omega, fun y hy => ?_, fun y hy => ?_⟩
  · obtain ⟨i, hi, rfl⟩ := List.getElem_of_mem hy
    have := ib.2.2.2 i hi
    rw [lof_at (List.getElem?_eq_getElem hi)] at this
    exact intOkS this.1 (by omega)
  · obtain ⟨i, hi, rfl⟩ := List.getElem_of_mem hy
    have := ib.2.2.2 i (by omega)
    rw [lof_at (xs := x.1.2) (List.getElem?_eq_getElem hi)] at this
    exact intOkS (by omega) (by omega)
theorem deep21 {lw hg : Nat → Int} {n : Nat} {c : Option Int} (B : Bx lw hg n c) {D : Nat} (h : IsD n (Wd lw hg n c) D) : D ≤ 21 := h.le (can_wid 21 B B.wid_nn.2)
section
variable {P : Program} {w : World} {K : PySem.W.Frag} {mg : Str → Option Value} {base : Heap} {a : Ad} {fd : Fd}
def spPaper (P : Program) (w : World) (a : Ad) : Sp := fun vs H Q _ => ∃ (v : V) (lw hg : Nat → Int) (n : Nat) (c : Option Int), vs = [v] ∧ BoxH H v lw hg n n c ∧ BOk lw hg n n c ∧ isB lw hg n n ∧ ¬ badC (sumF lw n) (sumF hg n) c ∧
  ∀ (r : Addr) (ts : List Addr) (rs : List RW) (D : Nat) H', Same H H' → H r = none → H' r = some (.lst (ts.map V.ref)) → RwsH H' ts rs → rs.length ≤ 600000 → (∀ x ∈ rs, RwOk x) → IsD n (Wd lw hg n c) D → ShowsP rs lw hg n c (D : Int) → Q (.ref r) H'
theorem ok_paper (T : Txt K mg a fd) : FnOk P w K mg base CX0 95 a.paper fd.paper ["box"] (spPaper P w a) := by
  have G_tight := ok_tight (P := P) (w := w) (base := base) T
  have G_Depths_init := ok_Depths_init (P := P) (w := w) (base := base) T
  have G_Depths_depth_of := (ok_depth_of (P := P) (w := w) (base := base) T 22)
  have G_claimed_behind := ok_claimed_behind (P := P) (w := w) (base := base) T
  refine T.F_paper.ok sc_paper (fun vs H Q E h => ?_) (fun cdv A outer s0 H vs Q E hr h => ?_)
  · obtain ⟨v, lw, hg, n, c, rfl, _⟩ := h
    rfl
  · obtain ⟨v, lw, hg, n, c, rfl, B, ok, ib, nb, kk⟩ := h
    refine ⟨_, (pss_cons (ps_set (i := 1) sc_paper.nd rfl (Or.inl rfl) (pe_call G_tight (hr.mono (by decide)) (by rfl) T.g_tight T.F_tight.kp T.b_tight .nil passL (pa_cons (pv 0) pa_nil)))
    (pss_cons (ps_set (i := 2) sc_paper.nd rfl (Or.inl rfl) (pe_make0 T.mkO G_Depths_init (hr.mono (by decide)) (by rfl) T.g_Depths T.b_Depths_init .nil pass0))
    (pss_cons (ps_set (i := 3) sc_paper.nd rfl (Or.inl rfl) (pe_meth (pv 2) T.cl T.m_Depths_depth_of G_Depths_depth_of (hr.mono (by decide)) T.b_Depths_depth_of .nil pass0 (pa_cons (pv 1) pa_nil)))
    (pss_cons (ps_if (pt_cmpR op_eq (pv 3) pe_int (nomark _)) (pss_one (ps_ret (pe_lst pa_nil))) pss_nil)
    (pss_cons (ps_set (i := 4) sc_paper.nd rfl (Or.inl rfl) (pe_ddispN hr.units (pv 1) (pv 3)))
    (pss_cons (ps_set (i := 5) sc_paper.nd rfl (Or.inl rfl) (pe_lst (pa_cons (pv 1) pa_nil)))
    (pss_cons (ps_for PassesOwn.never rfl (pi_range3 (by rfl) T.n_range (pa_cons (pe_op op_sub (pv 3) pe_int) (pa_cons pe_int (pa_cons (pe_un un_neg pe_int) pa_nil)))) (pg_name (i := 6) sc_paper.nd rfl (Or.inl rfl))
      (pss_one (ps_set (i := 5) sc_paper.nd rfl (Or.inl rfl) (pe_call G_claimed_behind (hr.mono (by decide)) (by rfl) T.g_claimed_behind T.F_claimed_behind.kp T.b_claimed_behind .nil pass0 (pa_cons (pv 5) (pa_cons (pv 6) (pa_cons (pv 4) (pa_cons (pv 2) pa_nil))))))))
    (pss_one (ps_ret (pe_lock (pe_lc (own := [("lows", 7), ("highs", 8), ("_", 9), ("claim", 10)]) (g := (gTup K 2 (gCons (gTup K 3 (gCons (gName 7) (gCons (gName 8) (gCons (gName 9) gNil)))) (gCons (gName 10) gNil)))) (by rfl) sc_paper.nd (pi_itemsN (pv 4)) (blkOk_by (own := [("lows", 7), ("highs", 8), ("_", 9), ("claim", 10)]) (N := ["box", "whole", "depths", "depth", "claims", "level", "left", "lows", "highs", "_", "claim"]) (sc := defScope s_paper) (by decide +kernel)) (fun _ _ _ _ _ => pg_tupK (K := K) rfl (by rfl) (pgs_cons (pg_tupK (K := K) rfl (by rfl) (pgs_cons (pg_name (i := 7) sc_paper.nd rfl (Or.inl rfl)) (pgs_cons (pg_name (i := 8) sc_paper.nd rfl (Or.inl rfl)) (pgs_cons (pg_name (i := 9) sc_paper.nd rfl (Or.inl rfl)) pgs_nil)))) (pgs_cons (pg_name (i := 10) sc_paper.nd rfl (Or.inl rfl)) pgs_nil))) (fun _ _ _ _ _ => pts_nil) (fun _ _ _ _ _ => (pe_tup (pa_cons (pv 7) (pa_cons (pv 8) (pa_cons (pv 10) pa_nil)))))))))))))))), ?_⟩
    refine ⟨_, rfl, v, lw, hg, n, n, c, rfl, B, ok, fun z => absurd ib z, fun _ z => absurd z nb, fun _ _ v1 H1 s1 B1 => ?_⟩
    have le : ∀ i, i < n → lw i ≤ hg i := fun i hi => (ib.2.2.2 i hi).2.1
    have X : Bx (tlF lw hg n c) (thF lw hg n c) n c := ⟨ib.2.2.1, fun i hi => by
      have := ib.2.2.2 i hi
      have := tl_ge (lw := lw) (hg := hg) (n := n) (c := c) i
      have := th_le (lw := lw) (hg := hg) (n := n) (c := c) i
      omega, Tg.of le nb, ok.cc⟩
    have eW : Wd (tlF lw hg n c) (thF lw hg n c) n c = Wd lw hg n c := ws_ext fun f => Wd.tight_iff'
    have xs := X.wid_nn
    refine gName_go ?_
    try dsimp only
    refine seq_go ?_
    intro p dx np ndx ne
    refine ⟨p, dx, rfl, upd_same, fun dd H2 nd k2 O2 => ⟨rfl, ?_⟩⟩
    have sA : Same H1 (upd (upd H1 dx (.own p)) p (.ins a.C dx [])) := fun c u e => by
      rw [upd_ne (fun z => by rw [z, np] at e; cases e), upd_ne (fun z => by rw [z, ndx] at e; cases e)]
      exact e
    have s2 : Same H1 H2 := fun c u e => k2 _ _ (sA _ _ e) fun z => by
      rw [List.mem_singleton.mp z, np] at e
      cases e
    have fresh : ∀ {Ha Hb : Hp} {x : Addr}, Same Ha Hb → Hb x = none → Ha x = none := fun {Ha Hb x} s e => by
      by_cases q : Ha x = none
      · exact q
      · obtain ⟨u, e'⟩ := Option.ne_none_iff_exists'.mp q
        rw [s _ _ e'] at e
        cases e
    have nd1 : H1 dd = none := fresh sA nd
    refine gName_go ?_
    try dsimp only
    refine seq_go ?_
    obtain ⟨b, bp, bq, rfl, hb1, hb2, hb3⟩ := id B1
    have B2 := B1.same s2
    refine ⟨_, rfl, p, dx, _, rfl, O2.ob, kno (by decide +kernel), _, rfl, p, dx, dd, [], .ref b, _, _, n, c, rfl, O2, B2, X, by omega, fun D H3 kd3 k3 O3 iD => ?_⟩
    have s3 : Same H1 H3 := fun c u e => k3 _ _ (s2 _ _ e) fun z => by
      rw [List.mem_singleton.mp z, nd1] at e
      cases e
    rw [eW] at iD
    refine gName_go ?_
    try dsimp only
    refine seq_go ?_
    refine ⟨_, rfl, rfl, _, rfl, ?_⟩
    by_cases c0 : D = 0
    · subst c0
      rw [decide_eq_true (show V.int (((0 : Nat) : Nat) : Int) = V.int 0 from rfl)]
      refine iteT ?_
      refine ⟨Nat.zero_le _, fun r nr => ?_⟩
      have s13 := s1.trans s3
      exact kk r [] [] 0 _ (s13.trans (same_upd nr)) (fresh s13 nr) upd_same ⟨rfl, fun i t x e => by simp at e⟩ (Nat.zero_le _) (fun x hx => by cases hx) iD ⟨fun x hx => (by cases hx), .inl (Int.le_refl _), fun x hx => (by cases hx)⟩
    · rw [decide_eq_false (show ¬ V.int ((D : Nat) : Int) = V.int 0 from fun z => by injection z; omega)]
      refine iteF ?_
      refine next_go ?_
      refine seq_go ?_
      have bA3 : BxA H3 b (LI (tlF lw hg n c) n, LI (thF lw hg n c) n) c := ⟨bp, bq, s3 _ _ hb1, s3 _ _ hb2, s3 _ _ hb3⟩
      intro dc ndc
      have sC : Same H3 (upd H3 dc (DicO P w dc [])) := same_upd ndc
      refine ⟨_, rfl, _, rfl, b, keyB (LI (tlF lw hg n c) n) (LI (thF lw hg n c) n) c, rfl, ⟨upd_same, fun x hx => (by cases hx), Nat.zero_le _⟩, (bA3.mono fun c' xs e => sC _ _ e).nk, keyB_depth _ _ _, ?_⟩
      refine gName_go ?_
      try dsimp only
      refine seq_go ?_
      refine ⟨_, rfl, (by show 1 ≤ sizeLine; decide), fun r5 nr5 => ?_⟩
      refine gName_go ?_
      try dsimp only
      refine seq_go ?_
      obtain ⟨H4, e4⟩ : ∃ H4, upd (upd H3 dc (DicO P w dc [])) dc (DicO P w dc ([((LI (tlF lw hg n c) n, LI (thF lw hg n c) n), b, D)].map (entC c))) = H4 := ⟨_, rfl⟩
      have s4 : Same H3 H4 := fun c' u e => by
        rw [← e4, upd_ne (fun z => by rw [z, ndc] at e; cases e), upd_ne (fun z => by rw [z, ndc] at e; cases e)]
        exact e
      have hd4 : H4 dc = some (DicO P w dc ([((LI (tlF lw hg n c) n, LI (thF lw hg n c) n), b, D)].map (entC c))) := by
        rw [← e4, upd_same]
      have nr5 : H4 r5 = none := by
        rw [← e4]
        exact nr5
      have bA4 := bA3.mono fun c' xs e => s4 _ _ e
      have C4 : ClC P w H4 dc c [((LI (tlF lw hg n c) n, LI (thF lw hg n c) n), b, D)] := ⟨⟨hd4, fun x hx => by
        rw [List.mem_singleton.mp hx]
        exact ⟨bA4.nk, keyB_depth _ _ _⟩, by show 1 ≤ 1000000; decide⟩, ⟨List.nodup_cons.mpr ⟨(by simp), List.nodup_nil⟩, fun e he => by
        rw [List.mem_singleton.mp he]
        exact ⟨_, _, n, D, X, rfl, by rw [eW]; exact iD, by show 1 ≤ D; omega, Nat.le_refl _⟩⟩⟩
      have ncd : dc ≠ dd := fun z => by rw [z, O3.di.at_] at ndc; cases ndc
      have ndc1 : H1 dc = none := fresh s3 ndc
      have s5 : Same H4 (upd H4 r5 (.lst [V.ref b])) := same_upd nr5
      have h5 : (upd H4 r5 (.lst [V.ref b])) r5 = some (.lst ([b].map V.ref)) := upd_same
      obtain ⟨H5, e5⟩ : ∃ H5, upd H4 r5 (.lst [V.ref b]) = H5 := ⟨_, rfl⟩
      rw [e5] at s5 h5
      have s35 := s4.trans s5
      have C5 : ClC P w H5 dc c [((LI (tlF lw hg n c) n, LI (thF lw hg n c) n), b, D)] := ⟨C4.di.same' s5, C4.kn⟩
      refine ⟨_, rfl, _, _, rfl, rfl, 1, rfl, (D : Int) - 1, 0, -1, D - 1, rfl, ?_, ?_⟩
      · have := RgC.neg (i := (D : Int) - 1) (j := 0) (by omega) (by have := deep21 X (by rw [eW]; exact iD); omega) (by decide) (by decide)
        rw [show ((D : Int) - 1 - 0).toNat = D - 1 by omega] at this
        exact this
      have iX : IsD n (Wd (tlF lw hg n c) (thF lw hg n c) n c) D := by
        rw [eW]
        exact iD
      have LB5 : LB H5 [b] [(LI (tlF lw hg n c) n, LI (thF lw hg n c) n)] c (D - 0) := ⟨rfl, fun i t k e1 e2 => by
        match i, e1, e2 with
        | 0, e1, e2 =>
          cases e1
          cases e2
          exact ⟨bA4.mono fun c' xs e => s5 _ _ e, _, _, n, D, X, rfl, iX, Nat.sub_le _ _⟩⟩
      have d21 := deep21 X iX
      subst e5
      subst e4
      refine for_it walk_rc (fun i σ H' => i ≤ D - 1 ∧ ∃ (r5 : Addr) (ts : List Addr) (bs : List LKey) (kn : List LEnt) (kd : List KEnt) (v6 : Option V), σ = [some v, some (.ref b), some (.ref p), some (.int ((D : Nat) : Int)), some (.ref dc), some (.ref r5), v6, none, none, none, none] ∧ Same H1 H' ∧ H' r5 = some (.lst (ts.map V.ref)) ∧ LB H' ts bs c (D - i) ∧ ClC P w H' dc c kn ∧ (∀ e ∈ kn, D - i ≤ e.2.2) ∧ DepO P w a H' p dx dd kd ∧ (∃ e ∈ kn, e.1 = (LI (tlF lw hg n c) n, LI (thF lw hg n c) n) ∧ D ≤ e.2.2) ∧ ∀ e ∈ kn, (e.2.2 = D - i ∧ e.1 ∈ bs) ∨ ∃ L, ClsK c kn L e.1 ∧ e.2.2 ≤ L + 1)
        ⟨Nat.zero_le _, r5, [b], [(LI (tlF lw hg n c) n, LI (thF lw hg n c) n)], _, kd3, none, rfl, s3.trans s35, h5, ?_, C5, fun e he => ?_, O3.same s35, ⟨_, List.mem_cons_self, rfl, Nat.le_refl _⟩, fun e he => ?_⟩ (fun i σ H' _ _ => trivial) ?_ ?_
      · exact LB5
      · rw [List.mem_singleton.mp he]
        exact Nat.sub_le _ _
      · rw [List.mem_singleton.mp he]
        exact .inl ⟨rfl, List.mem_cons_self⟩
      · rintro i x σ H6 H7 hi ⟨hi', r6, ts, bs, kn, kd, v6, rfl, s6, hr6, hLB, hC, hge, hO, hw6, hp⟩ ⟨rfl, rfl⟩
        have el : (D : Int) - 1 + ((i : Nat) : Int) * (-1) = ((D - 1 - i : Nat) : Int) := by omega
        rw [el]
        have e1 : D - i = D - 1 - i + 1 := by omega
        have e2 : D - (i + 1) = D - 1 - i := by omega
        refine gName_go ?_
        refine ⟨_, rfl, _, rfl, _, rfl, _, rfl, r6, p, dx, dd, dc, kd, D - 1 - i, c, ts, bs, kn, rfl, by omega, ncd, hr6, by rw [← e1]; exact hLB, hC, fun e he => by have := hge e he; omega, hO, fun r' us bs' kn' kd' H' nr' I hcl => ?_⟩
        refine gName_go ?_
        try refine next_go ?_
        refine ⟨by omega, r', us, bs', kn', kd', _, rfl, fun c' u e => I.kp _ _ (s6 _ _ e) fun z => ?_, I.nw, by rw [e2]; exact I.lb, I.cl, fun e he => by rw [e2]; exact I.ge e he, I.dp, ?_, fun e he => ?_⟩
        · rcases List.mem_cons.mp z with z | z
          · rw [z, ndc1] at e
            cases e
          · rw [List.mem_singleton.mp z, nd1] at e
            cases e
        · obtain ⟨e, he, ek⟩ := hw6
          exact ⟨e, I.sub e he, ek⟩
        · rcases I.src e he with ho | hnw
          · rcases hp e ho with ⟨z1, z2⟩ | ⟨L, ⟨lw', hg', n', B', k', cl⟩, z2⟩
            · exact .inr ⟨D - 1 - i, hcl _ z2, by omega⟩
            · exact .inr ⟨L, ⟨lw', hg', n', B', k', fun k m l => let ⟨e', he', z⟩ := cl k m l; ⟨e', I.sub e' he', z⟩⟩, z2⟩
          · exact .inl ⟨by rw [e2]; exact hnw.1, hnw.2⟩
      · rintro σ H6 ⟨_, r6, ts, bs, kn, kd, v6, rfl, s6, hr6, hLB, hC, hge, hO, hw6, hp⟩
        have e1 : D - (D - 1) = 1 := by omega
        rw [e1] at hge hp
        refine ⟨dc, _, hC.di.at_, True.intro, fun od => ?_⟩
        refine ⟨_, rfl, dc, od, _, rfl, upd_same, fun Dn nDn => ?_⟩
        have dcn : dc ≠ Dn := fun z => by rw [← z, upd_same] at nDn; cases nDn
        have hn6 : H6 Dn = none := by
          rw [upd_ne (Ne.symm dcn)] at nDn
          exact nDn
        have tp0 : ∀ c' xs, H6 c' = some (.tup xs) → (upd H6 dc (.frz od (DicO P w dc (kn.map (entC c))))) c' = some (.tup xs) := fun c' xs e => by
          rw [upd_ne (fun z => by rw [z, hC.di.at_] at e; cases e)]
          exact e
        refine lc_it (walk_itemsN (P := P) (w := w) (d := dc) (o := od) (kvs := kn.map (entC c))) (fun j H' => Same (upd H6 dc (.frz od (DicO P w dc (kn.map (entC c))))) H' ∧ ∃ us : List Addr, H' Dn = some (.lst (us.map V.ref)) ∧ RwsH H' us ((kn.take j).map rowE))
          ⟨same_upd nDn, [], upd_same, ⟨rfl, fun i t x e => by simp at e⟩⟩ (fun j H' _ h => h.1 _ _ upd_same) ?_ ?_
        · rintro j x H7 H8 hj ⟨s7, us, hDn, hU⟩ ⟨Tz, k0, a0, v0, ek, rfl, nT, rfl⟩
          rw [List.getElem?_map] at ek
          obtain ⟨e, ee, ez⟩ := Option.map_eq_some_iff.mp ek
          unfold entC at ez
          injection ez with ez1 ez2
          injection ez2 with ez2 ez3
          subst ez1 ez2 ez3
          have em := List.mem_of_getElem? ee
          have hbA := BxA.of_nk ((hC.di.key (entC c e) (List.mem_map_of_mem em)).1)
          have tp8 : ∀ c' xs, H6 c' = some (.tup xs) → (upd H7 Tz (.tup [V.ref e.2.1, V.int ((e.2.2 : Nat) : Int)])) c' = some (.tup xs) := fun c' xs z => same_upd nT _ _ (s7 _ _ (tp0 _ _ z))
          obtain ⟨p9, q9, h1, h2, h3⟩ := hbA.mono tp8
          have DT : Dn ≠ Tz := fun z => by rw [← z, hDn] at nT; cases nT
          have hD8 : (upd H7 Tz (.tup [V.ref e.2.1, V.int ((e.2.2 : Nat) : Int)])) Dn = some (.lst (us.map V.ref)) := by
            rw [upd_ne DT]
            exact hDn
          refine ⟨Tz, _, rfl, SqT.of upd_same, rfl, _, _, rfl, e.2.1, _, rfl, SqT.of h1, rfl, _, _, rfl, _, _, rfl, _, _, rfl, rfl, _, _, rfl, rfl, rfl, ?_⟩
          dsimp only [tYes]
          rw [if_pos rfl]
          refine ⟨_, rfl, _, rfl, _, rfl, (by show 3 ≤ sizeLine; decide), fun t nt => ?_⟩
          have Dt : Dn ≠ t := fun z => by rw [← z, hD8] at nt; cases nt
          have s8 : Same H7 (upd H7 Tz (.tup [V.ref e.2.1, V.int ((e.2.2 : Nat) : Int)])) := same_upd nT
          have s9 : Same (upd H7 Tz (.tup [V.ref e.2.1, V.int ((e.2.2 : Nat) : Int)])) (upd (upd H7 Tz (.tup [V.ref e.2.1, V.int ((e.2.2 : Nat) : Int)])) t (.tup [V.ref p9, V.ref q9, V.int ((e.2.2 : Nat) : Int)])) := same_upd nt
          have row : RwH (upd (upd H7 Tz (.tup [V.ref e.2.1, V.int ((e.2.2 : Nat) : Int)])) t (.tup [V.ref p9, V.ref q9, V.int ((e.2.2 : Nat) : Int)])) t (rowE e) := ⟨p9, q9, upd_same, s9 _ _ h2, s9 _ _ h3⟩
          have tl := hU.len
          rw [List.length_map, List.length_take] at tl
          have kl := hC.kn.len
          have hU9 := ((hU.same s8).same s9).snoc row
          have hD9 : (upd (upd H7 Tz (.tup [V.ref e.2.1, V.int ((e.2.2 : Nat) : Int)])) t (.tup [V.ref p9, V.ref q9, V.int ((e.2.2 : Nat) : Int)])) Dn = some (.lst (us.map V.ref)) := by
            rw [upd_ne Dt]
            exact hD8
          refine ⟨_, hD9, ?_, fun c' u z => ?_, us ++ [t], ?_, ?_⟩
          · rw [List.length_map, sizeLine_eq]
            omega
          · rw [upd_ne (fun q => by rw [q, nDn] at z; cases z)]
            exact s9 _ _ (s8 _ _ (s7 _ _ z))
          · rw [upd_same, List.map_append]
            rfl
          · rw [take_snoc ee, List.map_append]
            refine hU9.mono fun c' xs z => ?_
            rw [upd_ne (fun q => by rw [q, hD9] at z; cases z)]
            exact z
        · rintro H7 ⟨s7, us, hDn, hU⟩
          rw [List.length_map, List.take_length] at hU
          have kl := hC.kn.len
          have clo : ∀ e ∈ kn, Clo c kn e := fun e he => (hp e he).elim (fun z => .inl (by omega)) .inr
          have rsh := rows_shown hC.kn clo
          have h7 : H7 dc = some (.frz od (DicO P w dc (kn.map (entC c)))) := s7 _ _ upd_same
          refine ⟨h7, ?_⟩
          refine kk Dn us (kn.map rowE) D _ (s1.trans fun c' u e => ?_) (fresh (s1.trans s6) hn6) ?_ (hU.mono fun c' xs e => ?_) (by rw [List.length_map]; exact kl) (fun x hx => rows_ok (rsh.1 x hx)) iD ⟨rsh.1, ?_, rsh.2⟩
          · have ndx' : c' ≠ dc := fun z => by rw [z, ndc1] at e; cases e
            rw [upd_ne ndx']
            exact s7 _ _ (by rw [upd_ne ndx']; exact s6 _ _ e)
          · rw [upd_ne (Ne.symm dcn)]
            exact hDn
          · rw [upd_ne (fun z => by rw [z, h7] at e; cases e)]
            exact e
          · obtain ⟨e, he, ek, el⟩ := hw6
            refine .inr ⟨rowE e, List.mem_map_of_mem he, ek, ?_⟩
            show ((D : Nat) : Int) ≤ ((e.2.2 : Nat) : Int)
            omega
end
end Nu
namespace Nu
open PySem PySem.Spec PyProof.Rows L2
theorem exB_of {K : PySem.W.Frag} {a : Ad} (h1 : PySem.W.exmOne K (.ref a.NoBox) (.ref a.NoBox) = some true) (h2 : PySem.W.exmOne K (.ref a.NoBox) (.ref a.NoWorld) = some false) (h3 : PySem.W.exmOne K (.ref a.NoWorld) (.ref a.NoBox) = some false) (h4 : PySem.W.exmOne K (.ref a.NoWorld) (.ref a.NoWorld) = some true) : ExB K a := ⟨by
  simp only [PySem.W.exmAny, h1, h2, Bool.or_false], by
  simp only [PySem.W.exmAny, h3, h4, Bool.or_false, Bool.false_or]⟩
/-- rows that the law draws and spoils: small lists of numbers -/
structure RwL (x : RW) : Prop where
  l1 : 1 ≤ x.1.1.length
  eq : x.1.1.length = x.1.2.length
  l3 : x.1.1.length ≤ 100
  a1 : ∀ y ∈ x.1.1, y.natAbs ≤ 1000
  a2 : ∀ y ∈ x.1.2, y.natAbs ≤ 1000
  n : x.2.natAbs ≤ 1000
theorem RwL.ok {x : RW} (h : RwL x) : RwOk x := ⟨by have := h.l3; omega, by have := h.l3; have := h.eq; omega, fun y hy => log_abs rfl (by have := h.a1 y hy; omega), fun y hy => log_abs rfl (by have := h.a2 y hy; omega)⟩
end Nu
namespace Nu
open PySem PySem.Spec PyProof.Rows L2
def rowD (x : RW) : PyData := .tuple [dw x.1.1, dw x.1.2, .int x.2]
theorem dp_rows {K : PySem.W.Frag} {H : Hp} : ∀ (ts : List Addr) (rs : List RW), RwsH H ts rs → DpAll K H (ts.map V.ref) (rs.map rowD)
  | [], [], _ => .nil
  | [], x :: r, h => by cases h.len
  | t :: r, [], h => by cases h.len
  | t :: r, x :: l, h => by
    obtain ⟨p, q, h1, h2, h3⟩ := h.at_ 0 t x rfl rfl
    exact .cons (.tup (SqT.of h1) (.cons (dp_tup h2) (.cons (dp_tup h3) (.cons (.int _) .nil)))) (dp_rows r l ⟨Nat.succ.inj h.len, fun i t' x' e f => h.at_ (i + 1) t' x' e f⟩)
theorem rows_lay : ∀ rs : List RW, PyData.canLayAll0 (rs.map rowD) = true
  | [] => by
    show PyData.canLayAll0 [] = true
    simp only [PyData.canLayAll0]
  | x :: r => by
    show PyData.canLayAll0 (rowD x :: r.map rowD) = true
    have e : (rowD x).canLay0 = true := by
      unfold rowD
      simp only [PyData.canLay0, PyData.canLayAll0, lay_dw, Bool.and_true]
    simp only [PyData.canLayAll0, rows_lay r, e, Bool.and_true]
theorem rows_dep : ∀ rs : List RW, PyData.depthAll (rs.map rowD) ≤ 2
  | [] => by
    show PyData.depthAll [] ≤ 2
    simp only [PyData.depthAll]
    omega
  | x :: r => by
    show PyData.depthAll (rowD x :: r.map rowD) ≤ 2
    have d1 := dep_dw x.1.1
    have d2 := dep_dw x.1.2
    have e : (rowD x).depth ≤ 2 := by
      unfold rowD
      simp only [PyData.depth, PyData.depthAll]
      omega
    have ih := rows_dep r
    simp only [PyData.depthAll]
    omega
theorem rows_shaped (rs : List RW) : SeqAt.shaped (.list (rs.map rowD)) = true := by
  have h1 := rows_lay rs
  have h2 := rows_dep rs
  unfold SeqAt.shaped
  have e1 : (PyData.list (rs.map rowD)).canLay0 = true := by
    simp only [PyData.canLay0, h1]
  have e2 : (PyData.list (rs.map rowD)).depth ≤ 3 := by
    simp only [PyData.depth]
    omega
  rw [e1, Bool.true_and]
  exact decide_eq_true (by omega)
theorem eq_rows {K : PySem.W.Frag} {H : Hp} {p e : Addr} {ts : List Addr} {rs : List RW} {Q : VK} (hp : H p = some (.lst (ts.map V.ref))) (hT : RwsH H ts rs) (he : H e = some (.lst [])) (q : Q (.bl rs.isEmpty) H) : rEqD K (.ref p) (.ref e) H Q := by
  refine ⟨.list (rs.map rowD), .list [], .lst (SqL.of hp) (dp_rows ts rs hT), .lst (SqL.of he) .nil, rows_shaped rs, by decide, ?_⟩
  cases rs with
  | nil => exact q
  | cons x r => exact q
/-- how far rows are spoiled -/
structure RwG (m : Nat) (x : RW) : Prop where
  l1 : 1 ≤ x.1.1.length
  eq : x.1.1.length = x.1.2.length
  l3 : x.1.1.length ≤ 100 + m
  a1 : ∀ y ∈ x.1.1, y.natAbs ≤ 1000 + 20 * m
  a2 : ∀ y ∈ x.1.2, y.natAbs ≤ 1000 + 20 * m
theorem RwG.ok {m : Nat} {x : RW} (h : RwG m x) (hm : m ≤ 40) : RwOk x := ⟨by have := h.l3; omega, by have := h.l3; have := h.eq; omega, fun y hy => log_abs rfl (by have := h.a1 y hy; omega), fun y hy => log_abs rfl (by have := h.a2 y hy; omega)⟩
theorem RwG.up {m : Nat} {x : RW} (h : RwG m x) : RwG (m + 1) x := ⟨h.l1, h.eq, by have := h.l3; omega, fun y hy => by have := h.a1 y hy; omega, fun y hy => by have := h.a2 y hy; omega⟩
/-- a list of rows, each by itself -/
def Good (m : Nat) (H : Hp) (ts : List Addr) : Prop := ∀ u ∈ ts, ∃ x, RwH H u x ∧ RwG m x
theorem Good.rows {m : Nat} {H : Hp} : ∀ {ts : List Addr}, Good m H ts → ∃ rs, RwsH H ts rs ∧ ∀ x ∈ rs, RwG m x
  | [], _ => ⟨[], ⟨rfl, fun i t x e => by simp at e⟩, fun x h => by cases h⟩
  | t :: ts, h => by
    obtain ⟨x, h1, h2⟩ := h t List.mem_cons_self
    obtain ⟨rs, h3, h4⟩ := Good.rows (ts := ts) fun u hu => h u (List.mem_cons_of_mem _ hu)
    refine ⟨x :: rs, ⟨by rw [List.length_cons, List.length_cons, h3.len], fun i t' x' e1 e2 => ?_⟩, fun y hy => ?_⟩
    · cases i with
      | zero =>
        cases e1
        cases e2
        exact h1
      | succ i => exact h3.at_ i t' x' e1 e2
    · rcases List.mem_cons.mp hy with e | hy
      · rw [e]
        exact h2
      · exact h4 y hy
theorem Good.mono {m : Nat} {H H' : Hp} {ts : List Addr} (h : Good m H ts) (s : ∀ c xs, H c = some (.tup xs) → H' c = some (.tup xs)) : Good m H' ts := fun u hu => let ⟨x, h1, h2⟩ := h u hu; ⟨x, h1.mono s, h2⟩
theorem Good.up {m : Nat} {H : Hp} {ts : List Addr} (h : Good m H ts) : Good (m + 1) H ts := fun u hu => let ⟨x, h1, h2⟩ := h u hu; ⟨x, h1, h2.up⟩
theorem Good.app {m : Nat} {H : Hp} {ts us : List Addr} (h : Good m H ts) (g : Good m H us) : Good m H (ts ++ us) := fun u hu => (List.mem_append.mp hu).elim (h u) (g u)
theorem Good.sub {m : Nat} {H : Hp} {ts us : List Addr} (h : Good m H ts) (g : ∀ u ∈ us, u ∈ ts) : Good m H us := fun u hu => h u (g u hu)
theorem Good.one {m : Nat} {H : Hp} {t : Addr} {x : RW} (h : RwH H t x) (g : RwG m x) : Good m H [t] := fun u hu => by
  rw [List.mem_singleton.mp hu]
  exact ⟨x, h, g⟩
theorem RwL.g {x : RW} (h : RwL x) : RwG 0 x := ⟨h.l1, h.eq, h.l3, fun y hy => by have := h.a1 y hy; omega, fun y hy => by have := h.a2 y hy; omega⟩
theorem hw.g {x : RW} {c : Option Int} (h : hw x c) : RwG 0 x := by
  obtain ⟨e, h1, h3, hb⟩ := h.1
  refine ⟨h1, e, by omega, fun y hy => ?_, fun y hy => ?_⟩
  · obtain ⟨i, hi, rfl⟩ := List.mem_iff_getElem.mp hy
    have := hb i hi
    rw [lof_at (List.getElem?_eq_getElem hi), lof_at (List.getElem?_eq_getElem (show i < x.1.2.length by omega))] at this
    omega
  · obtain ⟨i, hi, rfl⟩ := List.mem_iff_getElem.mp hy
    have := hb i (by omega)
    rw [lof_at (List.getElem?_eq_getElem hi), lof_at (List.getElem?_eq_getElem (show i < x.1.1.length by omega))] at this
    omega
theorem Good.of {m : Nat} {H : Hp} {ts : List Addr} {rs : List RW} (h : RwsH H ts rs) (g : ∀ x ∈ rs, RwG m x) : Good m H ts := fun u hu => by
  obtain ⟨i, hi, rfl⟩ := List.mem_iff_getElem.mp hu
  have h2 : i < rs.length := by rw [← h.len]; exact hi
  exact ⟨_, h.at_ i _ _ (List.getElem?_eq_getElem hi) (List.getElem?_eq_getElem h2), g _ (List.getElem_mem h2)⟩
end Nu
namespace Nu
open PySem PyProof.Rows L2
section
variable {X : Cx}
/-- a op1 b op2 c op3 d -/
def tChain3 (r r' r2 : R2) (ta tb tc td : TE) : TE := fun σ H Q => ta σ H fun x H1 => tb σ H1 fun y H2 => r x y H2 fun z H3 => ∃ k, z = .bl k ∧
  (if k = true then tc σ H3 fun w' H4 => r' y w' H4 fun z2 H5 => ∃ k2, z2 = .bl k2 ∧ (if k2 = true then td σ H5 fun u' H6 => r2 w' u' H6 Q else Q (.bl false) H5) else Q (.bl false) H3)
theorem pe_chain3 {a b c d : Expr} {ta tb tc td : TE} {pos : Pos} {op op' op2 : CmpOp} {r r' r2 : R2} (ho : OpR X (compareOp op) r) (ho' : OpR X (compareOp op') r') (ho2 : OpR X (compareOp op2) r2) (ha : PE X a ta) (hb : PE X b tb) (hc : PE X c tc) (hd : PE X d td)
    (hm : lastMarks [op, op', op2] [b, c, d] = false := by with_unfolding_all rfl) : PE X (.Compare a [op, op', op2] [b, c, d] pos) (tChain3 r r' r2 ta tb tc td) := by
  refine ⟨fun pins s σ H Q I h => ?_⟩
  refine Compare_chain (thn (ha.run pins s σ H _ I h) fun v s1 ⟨x, H1, I1, r1, q1⟩ => chain_link (thn (hb.run pins s1 σ H1 _ I1 q1) fun u s2 ⟨y, H2, I2, r2, q2⟩ =>
    thn (ho pins s2 σ H2 x y v u _ I2 r1 r2 q2) fun d s3 ⟨z, H3, I3, r3, k, e, q3⟩ => ?_)) hm
  subst e
  cases r3
  refine wpAny_truthy_bool ?_
  cases k with
  | false => exact ite_ff ⟨.bl false, H3, I3, rfl, q3⟩
  | true =>
    refine ite_tt (chain_link (thn (hc.run pins s3 σ H3 _ I3 q3) fun w' s4 ⟨z', H4, I4, r4, q4⟩ => thn (ho' pins s4 σ H4 y z' u w' _ I4 r2 r4 q4) fun d2 s5 ⟨z5, H5, I5, r5, k5, e5, q5⟩ => ?_))
    subst e5
    cases r5
    refine wpAny_truthy_bool ?_
    cases k5 with
    | false => exact ite_ff ⟨.bl false, H5, I5, rfl, q5⟩
    | true => exact ite_tt (chain_last (thn (hd.run pins s5 σ H5 _ I5 q5) fun w6 s6 ⟨z6, H6, I6, r6, q6⟩ => ho2 pins s6 σ H6 z' z6 w' w6 Q I6 r4 r6 q6))
theorem pt_chain3 {a b c d : Expr} {ta tb tc td : TE} {pos : Pos} {op op' op2 : CmpOp} {r r' r2 : R2} (ho : OpR X (compareOp op) r) (ho' : OpR X (compareOp op') r') (ho2 : OpR X (compareOp op2) r2) (ha : PE X a ta) (hb : PE X b tb) (hc : PE X c tc) (hd : PE X d td)
    (hm : lastMarks [op, op', op2] [b, c, d] = false := by with_unfolding_all rfl) : PT X (.Compare a [op, op', op2] [b, c, d] pos) (tTest (tChain3 r r' r2 ta tb tc td)) := by
  refine ⟨fun pins s σ H Q I h => ?_⟩
  refine isTrue_chain (thn (ha.run pins s σ H _ I h) fun v s1 ⟨x, H1, I1, r1, q1⟩ => test_link (thn (hb.run pins s1 σ H1 _ I1 q1) fun u s2 ⟨y, H2, I2, r2, q2⟩ =>
    thn (ho pins s2 σ H2 x y v u _ I2 r1 r2 q2) fun d s3 ⟨z, H3, I3, r3, k, e, q3⟩ => ?_)) hm
  subst e
  cases r3
  refine wpAny_truthy_bool ?_
  cases k with
  | false =>
    obtain ⟨k', e', q'⟩ := q3
    cases e'
    exact ite_ff ⟨H3, I3, q'⟩
  | true =>
    refine ite_tt (test_link (thn (hc.run pins s3 σ H3 _ I3 q3) fun w' s4 ⟨z', H4, I4, r4, q4⟩ => thn (ho' pins s4 σ H4 y z' u w' _ I4 r2 r4 q4) fun d2 s5 ⟨z5, H5, I5, r5, k5, e5, q5⟩ => ?_))
    subst e5
    cases r5
    refine wpAny_truthy_bool ?_
    cases k5 with
    | false =>
      obtain ⟨k', e', q'⟩ := q5
      cases e'
      exact ite_ff ⟨H5, I5, q'⟩
    | true =>
      refine ite_tt (test_last (thn (hd.run pins s5 σ H5 _ I5 q5) fun w6 s6 ⟨z6, H6, I6, r6, q6⟩ => thn (ho2 pins s6 σ H6 z' z6 w' w6 _ I6 r4 r6 q6) fun d' s7 ⟨z7, H7, I7, r7, k7, e7, q7⟩ => ?_))
      subst e7
      cases r7
      exact wpAny_truthy_bool ⟨H7, I7, q7⟩
end
end Nu
namespace Nu
open PySem PyProof.Rows L2
section
variable {pg : Program} {w : World} {A : Around} {I S : Addr} {fp wr : List Addr} {n : Nat} {P : Nat → Value → Prop} {St : Nat → Heap → Prop} {bt : Nat → Nat → Bool} {d : Value} {R : Result → Shared → Prop}
theorem mx_name : (toString "max" ++ toString ".loop" : String) = "max.loop" := by decide
/-- the walk of max, with a default -/
theorem mxd_loop (Wk : Walks pg w A.in1 I fp wr n P St) (cmp : CmpOf pg w A.in1 .Gt P bt) (sf : S ∉ fp) : ∀ (k j : Nat) (s : Shared) (its : Array Value) (c : Nat), n - j = k → j ≤ n → St j s.heap →
    ((j = 0 ∧ its = #[]) ∨ (0 < j ∧ ∃ v, its = #[v, v] ∧ P (argBest bt (j - 1)) v)) → s.heap.get? S = some { cls := .type "list", dict := none, data := .seq its c, slots := #[] } →
    (∀ v h' tk, (n = 0 ∧ v = d) ∨ (0 < n ∧ P (argBest bt (n - 1)) v) → (∀ b o, b ∉ wr → b ≠ S → s.heap.get? b = some o → h'.get? b = some o) → R (.ok (.ret v)) { s with heap := h', toks := tk }) →
    codeAny (model pg w) A (.builtin "max.loop" ⟨[.ref I, .none, .ref S], [("default", d)]⟩) R s := by
  have sw : S ∉ wr := fun q => sf (Wk.sub _ q)
  intro k
  induction k with
  | zero =>
    intro j s its c hk hj hst hb hS hR
    have hjn : j = n := by omega
    subst hjn
    refine codeAny_builtin F.entry_max_loop ?_
    rw [Around.under_plainId F.plain_max_loop _]
    refine (show wpAny _ A.in1 (seqItems? (.ref S) >>= _) _ _ s from wpAny_bind (wpAny_seqItems hS rfl ?_))
    refine (show wpAny _ A.in1 (tryCatch (pyNext (.ref I)) _ >>= _) _ _ s from wpAny_bind (wpAny_tryCatch (Wk.done s _ _ hst fun h' tk hk' => ?_)))
    have hS1 := hk' S _ sw hS
    rcases hb with ⟨j0, rfl⟩ | ⟨jp, v, rfl, hv⟩
    · refine wpAny_bind (wpAny_rule ?_)
      exact wpAny_pure (hR d _ tk (.inl ⟨j0, rfl⟩) fun b o b1 b2 e => hk' b o b1 e)
    · refine (show wpAny _ A.in1 (updateSeq S (fun _ => #[]) >>= _) _ _ _ from wpAny_bind ?_)
      refine wpAny_updateSeq hS1 rfl (wpAny_bind (wpAny_letGo (wpAny_pure ?_)))
      exact hR v _ tk (.inr ⟨jp, hv⟩) fun b o b1 b2 e => (Heap.get?_update_other _ _ (Ne.symm b2)).trans (hk' b o b1 e)
  | succ k ih =>
    intro j s its c hk hj hst hb hS hR
    have hlt : j < n := by omega
    refine codeAny_builtin F.entry_max_loop ?_
    rw [Around.under_plainId F.plain_max_loop _]
    refine (show wpAny _ A.in1 (seqItems? (.ref S) >>= _) _ _ s from wpAny_bind (wpAny_seqItems hS rfl ?_))
    refine (show wpAny _ A.in1 (tryCatch (pyNext (.ref I)) _ >>= _) _ _ s from wpAny_bind (wpAny_tryCatch (Wk.item j s _ _ hlt hst fun v h' tk hP hst' hk' => ?_)))
    have hS1 := hk' S _ sw hS
    have fr : ∀ (its' : Array Value), St (j + 1) (h'.update S (Obj.mapSeq fun _ => its')) := fun its' => Wk.frame _ _ _ hst' fun b bf o e => (Heap.get?_update_other _ _ (fun q : S = b => sf (by rw [q]; exact bf))).trans e
    have kp : ∀ (its' : Array Value), ∀ b o, b ∉ wr → b ≠ S → s.heap.get? b = some o → (h'.update S (Obj.mapSeq fun _ => its')).get? b = some o := fun its' b o b1 b2 e => (Heap.get?_update_other _ _ (Ne.symm b2)).trans (hk' b o b1 e)
    rcases hb with ⟨j0, rfl⟩ | ⟨jp, u, rfl, hu⟩
    · refine (show wpAny _ A.in1 (updateSeq S (fun _ => #[v, v]) >>= _) _ _ _ from wpAny_bind ?_)
      refine wpAny_updateSeq hS1 rfl ?_
      rw [mx_name]
      refine wpAny_pure ⟨plainId_quiet F.plain_max_loop _, ih (j + 1) _ #[v, v] _ (by omega) hlt (fr _) (.inr ⟨Nat.succ_pos _, v, rfl, ?_⟩) (Heap.get?_update_self _ hS1 rfl) fun v' h2 tk2 q2 kp2 => hR v' h2 tk2 q2 fun b o b1 b2 e => kp2 b o b1 b2 (kp _ b o b1 b2 e)⟩
      subst j0
      exact hP
    · refine (show wpAny _ A.in1 (tryCatch (holding [v, v] (richCompare .Gt v u >>= _)) _ >>= _) _ _ _ from ?_)
      refine wpAny_bind (wpAny_tryCatch (wpAny_holding (wpAny_bind (cmp j (argBest bt (j - 1)) v u _ _ _ hP hu ?_))))
      refine wpAny_bind (wpAny_holding (wpAny_truthy_bool (wpAny_bind (wpAny_letGo (wpAny_pure ?_)))))
      have step : argBest bt j = if bt j (argBest bt (j - 1)) then j else argBest bt (j - 1) := by
        obtain ⟨i, rfl⟩ : ∃ i, j = i + 1 := ⟨j - 1, by omega⟩
        rfl
      cases hb : bt j (argBest bt (j - 1)) with
      | true =>
        rw [if_pos rfl]
        refine wpAny_bind (wpAny_updateSeq hS1 rfl (wpAny_bind (wpAny_letGo ?_)))
        rw [mx_name]
        refine wpAny_pure ⟨plainId_quiet F.plain_max_loop _, ih (j + 1) _ #[v, v] _ (by omega) hlt (fr _) (.inr ⟨Nat.succ_pos _, v, rfl, ?_⟩) (Heap.get?_update_self _ hS1 rfl) fun v' h2 tk2 q2 kp2 => hR v' h2 tk2 q2 fun b o b1 b2 e => kp2 b o b1 b2 (kp _ b o b1 b2 e)⟩
        rw [Nat.add_sub_cancel, step, hb]
        exact hP
      | false =>
        rw [if_neg (by simp)]
        refine wpAny_bind (wpAny_letGo ?_)
        rw [mx_name]
        refine wpAny_pure ⟨plainId_quiet F.plain_max_loop _, ih (j + 1) _ #[u, u] _ (by omega) hlt hst' (.inr ⟨Nat.succ_pos _, u, rfl, ?_⟩) hS1 fun v' h2 tk2 q2 kp2 => hR v' h2 tk2 q2 fun b o b1 b2 e => kp2 b o b1 b2 (hk' b o b1 e)⟩
        rw [Nat.add_sub_cancel, step, hb]
        exact hu
end
section
variable {pg : Program} {w : World} {A : Around} {E : Value → Shared → Prop} {s : Shared} {l : Addr} {d : Value} {xs : Array (Int × Tok)} {Q : Value → Shared → Prop}
theorem mx_args (l : Addr) (d : Value) : argsOk "max" ⟨[.ref l], [("default", d)]⟩ := by
  unfold argsOk
  kernel_rfl
theorem mx_call (hh : A.handled = none) (hl : s.heap.IsList l (intItems xs))
    (h : ∀ v h' tk, (xs.size = 0 ∧ v = d) ∨ (0 < xs.size ∧ (intItems xs)[argBest (fun i j => decide (numAt xs i > numAt xs j)) (xs.size - 1)]? = some v) → (∀ b o, s.heap.get? b = some o → h'.get? b = some o) → Q v { s with heap := h', toks := tk }) :
    wpAny (model pg w) A (call (.builtin "max") [.ref l] [("default", d)]) Q E s := by
  refine wpAny_call (codeAny_call_builtin F.plain_max F.entry_max ?_)
  have ha := mx_args l d
  have main : wpAny (model pg w) A.in1 (Builtin.«max» ⟨[.ref l], [("default", d)]⟩) (fun fin s' => match fin with
      | .done f => (match (Except.ok f : Result) with | .ok (.ret v) => Q v s' | .ok _ => False | .error e => E e s')
      | .again c' => c'.quiet = true ∧ codeAny (model pg w) A c' (fun r s' => match r with | .ok (.ret v) => Q v s' | .ok _ => False | .error e => E e s') s') E s := by
    refine (show wpAny _ A.in1 (Builtin.Builtins.bindParams "max" ["key", "default"] 0 ⟨[], [("default", d)]⟩ >>= _) _ _ s from ?_)
    refine wpAny_bind (wpAny_of_eq (show Builtin.Builtins.bindParams "max" ["key", "default"] 0 ⟨[], [("default", d)]⟩ = pure [none, some d] from rfl) ?_)
    refine wpAny_bind (wpAny_pure ?_)
    refine wpAny_bind (iter_intList hl fun s2 e st hfp hlI => ?_)
    subst e
    refine wpAny_bind (wpAny_newObj_type ?_)
    rw [mx_name]
    have Wk : Walks pg w A.in1 s.heap.objs.size [s.heap.objs.size, l] [s.heap.objs.size] (intItems xs).size (fun i v => (intItems xs)[i]? = some v) (fun i h => h.IsListIter s.heap.objs.size l i ∧ h.IsList l (intItems xs)) := Walks.list (A := A.in1) hh _ l hlI (intItems xs)
    have hsz : (intItems xs).size = xs.size := by simp [intItems]
    refine wpAny_pure ⟨plainId_quiet F.plain_max_loop _, mxd_loop Wk (CmpOf.ints_gt (numAt xs) (fun _ _ => intItems_at)) (fun q => Nat.lt_irrefl _ (hfp _ q)) _ 0 _ #[] _ rfl (Nat.zero_le _) (Wk.frame _ _ _ st fun b _ o e => Heap.get?_push_of_some _ e) (.inl ⟨rfl, rfl⟩) (Heap.get?_push_size _ rfl) fun v h' tk hv hk => ?_⟩
    rw [hsz] at hv
    refine h v h' tk hv fun b o e => ?_
    have hb := Heap.lt_size e
    refine hk b o (fun q => ?_) ?_ (Heap.get?_push_of_some _ (Heap.get?_push_of_some _ e))
    · rw [List.mem_singleton.mp q] at hb
      exact Nat.lt_irrefl _ hb
    · intro q
      rw [q] at hb
      have hb : (s.heap.push { cls := .type "list_iterator", data := .fields #[.ref l, .int 0 0] }).objs.size < s.heap.objs.size := hb
      rw [Heap.size_push] at hb
      omega
  simp only [checkBuiltinCall, F.kind_max]
  cases hg : Manifest.signature? "max" with
  | none => exact wpAny_pure main
  | some g =>
    have hx : Bind.checkArgs "max" g ⟨[.ref l], [("default", d)]⟩ = pure () := by
      rw [argsOk, hg] at ha
      exact ha
    simp only [hx]
    exact wpAny_pure main
end
def rMaxDef (K : PySem.W.Frag) : List V → List V → Hp → VK → Prop := fun xs zs H Q => ∃ (a : Addr) (ns : List Int) (dv : Int), xs = [.ref a] ∧ zs = [.int dv] ∧ SqL K H a (ns.map V.int) ∧ ∀ m, (ns = [] ∧ m = dv) ∨ (m ∈ ns ∧ ∀ y ∈ ns, y ≤ m) → Q (.int m) H
/-- max(a list of whole numbers, default=a whole number) -/
theorem cr_maxDef {X : Cx} (hc : X.calm = true) : CallRK X (.builtin "max") ["default"] (rMaxDef X.K) := by
  intro pins s σ H vs zs us ws Q I r rz h
  obtain ⟨a, ns, dv, rfl, rfl, hs, q⟩ := h
  obtain ⟨its, rv, hl, _⟩ := I.list hs
  rw [Vals.ref1 r]
  cases rz with
  | cons rd rt =>
    cases rt
    obtain ⟨td, rfl⟩ := rd
    obtain ⟨xs, e⟩ := rv.ints.allInts.items
    have hn : numsOf (intItems xs).toList = ns := by rw [← e]; exact rv.ints.numsOf
    rw [nums_intItems] at hn
    have hl2 := hl.isList
    rw [e] at hl2
    refine mx_call (I.ok.hd hc) hl2 fun v h' tk hv hk => ?_
    rcases hv with ⟨h0, rfl⟩ | ⟨h0, hv⟩
    · refine ⟨.int dv, H, I.kept hk, ⟨_, rfl⟩, q dv (.inl ⟨?_, rfl⟩)⟩
      rw [← hn]
      have : xs.toList = [] := by
        rw [← List.length_eq_zero_iff, Array.length_toList]
        exact h0
      rw [this]
      rfl
    · obtain ⟨t, rfl⟩ := intItems_at hv
      obtain ⟨h1, h2⟩ := argBest_gt (numAt xs) (xs.size - 1)
      refine ⟨.int _, H, I.kept hk, ⟨_, rfl⟩, q _ (.inr ⟨?_, fun y hy => ?_⟩)⟩
      · rw [← hn, numAt_eq]
        exact PySem.getD_mem (by rw [List.length_map, Array.length_toList]; omega)
      · rw [← hn] at hy
        obtain ⟨j, hj, rfl⟩ := mem_getD hy
        rw [List.length_map, Array.length_toList] at hj
        rw [← numAt_eq]
        exact h2 j (by omega)
end Nu
namespace Nu
open PySem PySem.Spec PyProof.Rows L2
theorem eqD_K {X : Cx} {K : PySem.W.Frag} (h : X.K = K) (hu : X.A.units + 64 < cLine) : OpR X (compareOp .Eq) (rEqD K) := h ▸ op_eqD hu
theorem neD_K {X : Cx} {K : PySem.W.Frag} (h : X.K = K) (hu : X.A.units + 64 < cLine) : OpR X (compareOp .NotEq) (rNeD K) := h ▸ op_neD hu
theorem il_shaped (x : List Int) : SeqAt.shaped (.list ((x.map V.int).map dV)) = true := by
  have h := dw_shaped x
  unfold dw SeqAt.shaped at h
  unfold SeqAt.shaped
  simp only [PyData.canLay0, PyData.depth] at h ⊢
  exact h
theorem eq_ints {K : PySem.W.Frag} {H : Hp} {p e : Addr} {xs : List Int} {Q : VK} (hp : H p = some (.lst (xs.map V.int))) (he : H e = some (.lst [])) (q : Q (.bl xs.isEmpty) H) : rEqD K (.ref p) (.ref e) H Q := by
  refine ⟨.list ((xs.map V.int).map dV), .list [], .lst (SqL.of hp) (dp_flats _ (ints_fl xs)), .lst (SqL.of he) .nil, il_shaped xs, by decide, ?_⟩
  cases xs with
  | nil => exact q
  | cons x r => exact q
theorem lofV {xs : List Int} {j : Nat} (h : j < xs.length) : (xs.map V.int)[j]? = some (V.int (lof xs j)) := by
  rw [List.getElem?_map, List.getElem?_eq_getElem h, lof_at (List.getElem?_eq_getElem h)]
  rfl
section
variable {P : Program} {w : World} {K : PySem.W.Frag} {mg : Str → Option Value} {base : Heap} {a : Ad} {fd : Fd}
def spIsBox : Sp := fun vs H Q _ => ∃ (p q : Addr) (ls hs : List Int), vs = [.ref p, .ref q] ∧ H p = some (.tup (ls.map V.int)) ∧ H q = some (.tup (hs.map V.int)) ∧ ls.length ≤ 1000 ∧ hs.length ≤ 1000 ∧
  (isB (lof ls) (lof hs) ls.length hs.length → ∀ H', Same H H' → Q (.bl true) H') ∧ (¬ isB (lof ls) (lof hs) ls.length hs.length → ∀ H', Same H H' → Q (.bl false) H')
theorem ok_l_is_box (T : Txt K mg a fd) : FnOk P w K mg base CX0 1 a.l_is_box fd.l_is_box ["_law_lows", "_law_highs"] spIsBox := by
  refine T.F_l_is_box.ok sc_l_is_box (fun vs H Q E h => ?_) (fun cdv A outer s0 H vs Q E hr h => ?_)
  · obtain ⟨p, q, ls, hs, rfl, _⟩ := h
    rfl
  · obtain ⟨p, q, ls, hs, rfl, hp, hq, n1, n2, k1, k2⟩ := h
    have hu := hu_of hr
    refine ⟨_, (pss_cons (ps_if (PW.pt (pw_or (pt_not (pt_chain op_le op_le pe_int (pe_callB call_len_seq (by rfl) T.n_len PySem.boot_len (pa_cons (pv 0) pa_nil)) pe_int)) (pw_or1 (pt_cmpR op_ne (pe_callB call_len_seq (by rfl) T.n_len PySem.boot_len (pa_cons (pv 0) pa_nil)) (pe_callB call_len_seq (by rfl) T.n_len PySem.boot_len (pa_cons (pv 1) pa_nil)) (nomark _))))) (pss_one (ps_ret pe_bl)) pss_nil)
    (pss_one (ps_ret (pe_cmpR (op_eqD hr.units) (pe_lc (own := [("_law_k", 2)]) (g := gName 2) (by rfl) sc_l_is_box.nd (pi_range1 (by rfl) T.n_range (pa_cons (pe_callB call_len_seq (by rfl) T.n_len PySem.boot_len (pa_cons (pv 0) pa_nil)) pa_nil)) (blkOk_by (own := [("_law_k", 2)]) (N := ["_law_lows", "_law_highs", "_law_k"]) (sc := defScope s_l_is_box) (by decide +kernel)) (fun _ _ _ _ _ => pg_name (i := 2) sc_l_is_box.nd rfl (Or.inl rfl)) (fun _ _ _ _ _ => (pts_one (pt_not (pt_chain3 op_le op_le op_le pe_int (pe_ix (ixT_K (K := K) rfl) (pv 0) (pv 2) (fun _ _ => rfl)) (pe_ix (ixT_K (K := K) rfl) (pv 1) (pv 2) (fun _ _ => rfl)) pe_int)))) (fun _ _ _ _ _ => (pv 2))) (pe_lst pa_nil) (nomark _))))), ?_⟩
    have lp : (ls.map V.int).length = ls.length := List.length_map ..
    have lq : (hs.map V.int).length = hs.length := List.length_map ..
    refine ⟨_, rfl, p, _, rfl, .inr (SqT.of hp), _, _, rfl, rfl, _, rfl, ?_⟩
    rw [lp]
    by_cases c1 : (1 : Int) ≤ (ls.length : Int)
    · rw [decide_eq_true c1]
      refine iteT ?_
      refine ⟨_, _, rfl, rfl, _, rfl, ?_⟩
      by_cases c2 : (ls.length : Int) ≤ 3
      · rw [decide_eq_true c2]
        refine iteF ?_
        refine ⟨_, rfl, p, _, rfl, .inr (SqT.of hp), _, rfl, q, _, rfl, .inr (SqT.of hq), rfl, _, rfl, ?_⟩
        rw [lp, lq]
        by_cases c3 : ls.length = hs.length
        · rw [show (!decide (V.int (ls.length : Int) = V.int (hs.length : Int))) = false by rw [c3]; simp]
          refine iteF ?_
          refine next_go ?_
          refine ⟨_, rfl, p, _, rfl, .inr (SqT.of hp), _, rfl, by omega, by rw [lp]; omega, fun D nD => ?_⟩
          rw [lp]
          refine lc_range (lo := 0) (n := ((ls.length : Nat) : Int).toNat) (fun j H' => ∃ acc : List Int, Same H H' ∧ H' D = some (.lst (acc.map V.int)) ∧ acc.length ≤ j ∧ (acc = [] ↔ ∀ i, i < j → 0 ≤ lof ls i ∧ lof ls i ≤ lof hs i ∧ lof hs i ≤ 7))
            ⟨[], same_upd nD, upd_same, Nat.le_refl _, fun _ i hi => absurd hi (Nat.not_lt_zero _), fun _ => rfl⟩ ?_ ?_
          · rintro j H1 hj ⟨acc, s1, hD, la, ha⟩
            have hj : j < ls.length := by omega
            refine ⟨wipe1 _ _ _, ?_⟩
            have yes : 0 ≤ lof ls j ∧ lof ls j ≤ lof hs j ∧ lof hs j ≤ 7 → ∃ acc : List Int, Same H H1 ∧ H1 D = some (.lst (acc.map V.int)) ∧ acc.length ≤ j + 1 ∧ (acc = [] ↔ ∀ i, i < j + 1 → 0 ≤ lof ls i ∧ lof ls i ≤ lof hs i ∧ lof hs i ≤ 7) := fun g =>
              ⟨acc, s1, hD, by omega, fun e i hi => by
                by_cases q : i = j
                · rw [q]
                  exact g
                · exact ha.mp e i (by omega), fun h => ha.mpr fun i hi => h i (by omega)⟩
            have no : ¬ (0 ≤ lof ls j ∧ lof ls j ≤ lof hs j ∧ lof hs j ≤ 7) → ∃ acc', H1 D = some (.lst acc') ∧ acc'.length < sizeLine ∧ ∃ acc : List Int, Same H (upd H1 D (.lst (acc' ++ [V.int (0 + (j : Int))]))) ∧ (upd H1 D (.lst (acc' ++ [V.int (0 + (j : Int))]))) D = some (.lst (acc.map V.int)) ∧ acc.length ≤ j + 1 ∧ (acc = [] ↔ ∀ i, i < j + 1 → 0 ≤ lof ls i ∧ lof ls i ≤ lof hs i ∧ lof hs i ≤ 7) := fun g =>
              ⟨_, hD, small1000 (by rw [List.length_map]; omega), acc ++ [0 + (j : Int)], fun c' u e => by
                rw [upd_ne (fun z => by rw [z, nD] at e; cases e)]
                exact s1 c' u e, by
                rw [upd_same, List.map_append]
                rfl, by rw [List.length_append]; simp; exact la, fun e => by simp at e, fun h => absurd (h j (Nat.lt_succ_self _)) g⟩
            refine ⟨_, rfl, _, rfl, p, _, _, _, rfl, rfl, SqT.of (s1 _ _ hp), atI_0j (lofV hj), _, _, rfl, rfl, _, rfl, ?_⟩
            by_cases d1 : (0 : Int) ≤ lof ls j
            · rw [decide_eq_true d1]
              refine iteT ?_
              refine ⟨_, rfl, _, rfl, q, _, _, _, rfl, rfl, SqT.of (s1 _ _ hq), atI_0j (lofV (by omega)), _, _, rfl, rfl, _, rfl, ?_⟩
              by_cases d2 : lof ls j ≤ lof hs j
              · rw [decide_eq_true d2]
                refine iteT ?_
                refine ⟨_, _, rfl, rfl, _, rfl, ?_⟩
                by_cases d3 : lof hs j ≤ 7
                · rw [decide_eq_true d3]
                  refine iteF ?_
                  exact yes ⟨d1, d2, d3⟩
                · rw [decide_eq_false d3]
                  refine iteT ?_
                  exact ⟨_, rfl, no fun z => d3 z.2.2⟩
              · rw [decide_eq_false d2]
                refine iteF ⟨_, rfl, iteT ?_⟩
                exact ⟨_, rfl, no fun z => d2 z.2.1⟩
            · rw [decide_eq_false d1]
              refine iteF ⟨_, rfl, iteT ?_⟩
              exact ⟨_, rfl, no fun z => d1 z.1⟩
          · rintro H1 ⟨acc, s1, hD, la, ha⟩
            rw [Int.toNat_natCast] at ha
            refine ⟨Nat.zero_le _, fun e ne => ?_⟩
            refine eq_ints (same_upd ne _ _ hD) upd_same ?_
            have s2 := s1.trans (same_upd (o := .lst []) ne)
            by_cases z : acc = []
            · rw [show acc.isEmpty = true by rw [z]; rfl]
              exact k1 ⟨c3, by omega, by omega, ha.mp z⟩ _ s2
            · have e2 : acc.isEmpty = false := by
                cases acc with
                | nil => exact absurd rfl z
                | cons x r => rfl
              rw [e2]
              exact k2 (fun h => z (ha.mpr h.2.2.2)) _ s2
        · rw [show (!decide (V.int (ls.length : Int) = V.int (hs.length : Int))) = true by rw [dneI (fun z => c3 (by omega))]; rfl]
          refine iteT ?_
          exact k2 (fun z => c3 z.1) _ (Same.refl _)
      · rw [decide_eq_false c2]
        refine iteT ?_
        refine k2 (fun z => ?_) _ (Same.refl _)
        have := z.2.2.1
        omega
    · rw [decide_eq_false c1]
      refine iteF ?_
      refine ⟨_, rfl, ?_⟩
      refine iteT ?_
      refine k2 (fun z => ?_) _ (Same.refl _)
      have := z.2.1
      omega
end
end Nu
namespace Nu
open PySem PySem.Spec PyProof.Rows L2
def keyD (ls hs : List Int) : PyData := .tuple [dw ls, dw hs]
theorem dp_key {K : PySem.W.Frag} {H : Hp} {t p q : Addr} {ls hs : List Int} (ht : H t = some (.tup [.ref p, .ref q])) (hp : H p = some (.tup (ls.map V.int))) (hq : H q = some (.tup (hs.map V.int))) : Dp K H (.ref t) (keyD ls hs) :=
  .tup (SqT.of ht) (.cons (dp_tup hp) (.cons (dp_tup hq) .nil))
theorem eqv_key (a b a' b' : List Int) : PyData.eqv (keyD a b) (keyD a' b') = (decide (a = a') && decide (b = b')) := by
  unfold keyD
  simp only [PyData.eqv, PyData.eqvAll, eqv_dw, Bool.and_true]
theorem key_shaped (a b : List Int) : SeqAt.shaped (keyD a b) = true := by
  have h1 := lay_dw a
  have h2 := lay_dw b
  have d1 := dep_dw a
  have d2 := dep_dw b
  unfold SeqAt.shaped
  have e1 : (keyD a b).canLay0 = true := by
    unfold keyD
    simp only [PyData.canLay0, PyData.canLayAll0, h1, h2, Bool.and_true]
  have e2 : (keyD a b).depth ≤ 2 := by
    unfold keyD
    simp only [PyData.depth, PyData.depthAll]
    omega
  rw [e1, Bool.true_and]
  exact decide_eq_true (by omega)
theorem eq_keys {K : PySem.W.Frag} {H : Hp} {t p q t' p' q' : Addr} {ls hs ls' hs' : List Int} {Q : VK} (ht : H t = some (.tup [.ref p, .ref q])) (hp : H p = some (.tup (ls.map V.int))) (hq : H q = some (.tup (hs.map V.int)))
    (ht' : H t' = some (.tup [.ref p', .ref q'])) (hp' : H p' = some (.tup (ls'.map V.int))) (hq' : H q' = some (.tup (hs'.map V.int))) (k : Q (.bl (decide (((ls, hs) : LKey) = (ls', hs')))) H) : rEqD K (.ref t) (.ref t') H Q := by
  refine ⟨keyD ls hs, keyD ls' hs', dp_key ht hp hq, dp_key ht' hp' hq', key_shaped _ _, key_shaped _ _, ?_⟩
  rw [eqv_key]
  have e : (decide (ls = ls') && decide (hs = hs')) = decide (((ls, hs) : LKey) = (ls', hs')) := by
    by_cases e1 : ls = ls'
    · by_cases e2 : hs = hs'
      · simp [e1, e2]
      · simp [e1, e2]
    · simp [e1]
  rw [e]
  exact k
/-- the greatest claim, or 0 -/
def ClM (rs : List RW) (k : LKey) (M : Int) : Prop := ((∀ x ∈ rs, x.1 ≠ k) ∧ M = 0) ∨ ((∃ x ∈ rs, x.1 = k ∧ x.2 = M) ∧ ∀ x ∈ rs, x.1 = k → x.2 ≤ M)
theorem ClM.clm {rs : List RW} {k : LKey} {M e : Int} (h : ClM rs k M) (he : 0 < e) : clm rs k e ↔ e ≤ M := by
  constructor
  · rintro (z | ⟨x, hx, ex, el⟩)
    · omega
    · rcases h with ⟨h1, _⟩ | ⟨_, h2⟩
      · exact absurd ex (h1 x hx)
      · have := h2 x hx ex
        omega
  · intro he2
    rcases h with ⟨_, h2⟩ | ⟨⟨x, hx, ex, em⟩, _⟩
    · omega
    · exact .inr ⟨x, hx, ex, by omega⟩
def clL (rs : List RW) (k : LKey) : List Int := (rs.filter fun x => decide (x.1 = k)).map (·.2)
section
variable {P : Program} {w : World} {K : PySem.W.Frag} {mg : Str → Option Value} {base : Heap} {a : Ad} {fd : Fd}
def spClaimed : Sp := fun vs H Q _ => ∃ (r t p q : Addr) (ts : List Addr) (rs : List RW) (ls hs : List Int), vs = [.ref r, .ref t] ∧ H r = some (.lst (ts.map V.ref)) ∧ RwsH H ts rs ∧ rs.length ≤ 700000 ∧ H t = some (.tup [.ref p, .ref q]) ∧ H p = some (.tup (ls.map V.int)) ∧ H q = some (.tup (hs.map V.int)) ∧
  ∀ M, ClM rs (ls, hs) M → ∀ H', Same H H' → Q (.int M) H'
theorem ok_l_claimed (T : Txt K mg a fd) : FnOk P w K mg base CX0 1 a.l_claimed fd.l_claimed ["_law_rows", "_law_sides"] spClaimed := by
  refine T.F_l_claimed.ok sc_l_claimed (fun vs H Q E h => ?_) (fun cdv A outer s0 H vs Q E hr h => ?_)
  · obtain ⟨r, t, p, q, ts, rs, ls, hs, rfl, _⟩ := h
    rfl
  · obtain ⟨r, t, p, q, ts, rs, ls, hs, rfl, hr0, hT, hl, ht, hp, hq, kk⟩ := h
    have hu := hu_of hr
    refine ⟨_, (pss_one (ps_ret (pe_callBK (cr_maxDef rfl) (by rfl) T.n_max (by decide +kernel) (pa_cons (pe_lc (own := [("_law_row", 2)]) (g := gName 2) (by rfl) sc_l_claimed.nd (pi_list (pv 0)) (blkOk_by (own := [("_law_row", 2)]) (N := ["_law_rows", "_law_sides", "_law_row"]) (sc := defScope s_l_claimed) (by decide +kernel)) (fun _ _ _ _ _ => pg_name (i := 2) sc_l_claimed.nd rfl (Or.inl rfl)) (fun _ _ _ _ _ => (pts_one (pt_cmpR (eqD_K (K := K) rfl hr.units) (pe_tup (pa_cons (pe_ix (ixT_K (K := K) rfl) (pv 2) pe_int (fun _ _ => rfl)) (pa_cons (pe_ix (ixT_K (K := K) rfl) (pv 2) pe_int (fun _ _ => rfl)) pa_nil))) (pv 1) (nomark _)))) (fun _ _ _ _ _ => (pe_ix (ixT_K (K := K) rfl) (pv 2) pe_int (fun _ _ => rfl)))) pa_nil) (pk_cons pe_int pk_nil)))), ?_⟩
    refine ⟨_, rfl, r, rfl, ⟨_, SqL.of hr0⟩, fun D nD => lc_list (K := K) (a := r) (xs := ts.map V.ref) (fun j H' => Same H H' ∧ H' D = some (.lst ((clL (rs.take j) (ls, hs)).map V.int)))
        ⟨same_upd nD, upd_same⟩ (fun j H' _ ⟨s2, _⟩ => SqL.of (s2 _ _ hr0)) ?_ ?_⟩
    · rintro j x H2 hx ⟨s2, hD⟩
      rw [List.getElem?_map] at hx
      obtain ⟨u, eu, rfl⟩ := Option.map_eq_some_iff.mp hx
      obtain ⟨x, ex, p2, q2, hu2, hp2, hq2⟩ := (hT.same s2).get eu
      refine ⟨wipe1 _ _ _, ?_⟩
      refine ⟨_, rfl, u, _, 0, _, rfl, rfl, SqT.of hu2, rfl, _, rfl, u, _, 1, _, rfl, rfl, SqT.of hu2, rfl, (by show 2 ≤ sizeLine; decide), fun t2 nt2 => ⟨_, rfl, ?_⟩⟩
      have s3 : Same H2 (upd H2 t2 (.tup [V.ref p2, V.ref q2])) := same_upd nt2
      have s23 := s2.trans s3
      have hD3 := s3 _ _ hD
      refine eq_keys upd_same (s3 _ _ hp2) (s3 _ _ hq2) (s23 _ _ ht) (s23 _ _ hp) (s23 _ _ hq) ⟨_, rfl, ?_⟩
      have tk := take_snoc ex
      have ll : (clL (rs.take j) (ls, hs)).length ≤ 700000 := by
        unfold clL
        rw [List.length_map]
        have := List.length_filter_le (fun x : RW => decide (x.1 = (ls, hs))) (rs.take j)
        rw [List.length_take] at this
        omega
      by_cases e : x.1 = (ls, hs)
      · rw [show ((x.1.1, x.1.2) : LKey) = x.1 from rfl, decide_eq_true e]
        refine iteT ?_
        refine ⟨_, rfl, u, _, 2, _, rfl, rfl, SqT.of (s3 _ _ hu2), rfl, _, hD3, by rw [List.length_map, sizeLine_eq]; omega, fun c o z => ?_, ?_⟩
        · rw [upd_ne (fun q => by rw [q, nD] at z; cases z)]
          exact s23 _ _ z
        · rw [upd_same, tk]
          unfold clL
          rw [List.filter_append, List.filter_cons_of_pos (p := fun x : RW => decide (x.1 = (ls, hs))) (decide_eq_true e), List.map_append, List.map_append]
          rfl
      · rw [show ((x.1.1, x.1.2) : LKey) = x.1 from rfl, decide_eq_false e]
        refine iteF ⟨s23, ?_⟩
        rw [hD3, tk]
        unfold clL
        rw [List.filter_append, List.filter_cons_of_neg (p := fun x : RW => decide (x.1 = (ls, hs))) (by rw [decide_eq_false e]; exact Bool.false_ne_true), List.filter_nil, List.append_nil]
    · rintro H2 ⟨s2, hD⟩
      rw [List.length_map, hT.len, List.take_length] at hD
      refine ⟨D, _, 0, rfl, rfl, SqL.of hD, fun m hm => kk m ?_ _ s2⟩
      have mm : ∀ y, y ∈ clL rs (ls, hs) ↔ ∃ x ∈ rs, x.1 = (ls, hs) ∧ x.2 = y := fun y => by
        unfold clL
        rw [List.mem_map]
        constructor
        · rintro ⟨x, hx, rfl⟩
          obtain ⟨h1, h2⟩ := List.mem_filter.mp hx
          exact ⟨x, h1, of_decide_eq_true h2, rfl⟩
        · rintro ⟨x, hx, ex, rfl⟩
          exact ⟨x, List.mem_filter.mpr ⟨hx, decide_eq_true ex⟩, rfl⟩
      rcases hm with ⟨h1, h2⟩ | ⟨h1, h2⟩
      · refine .inl ⟨fun x hx ex => ?_, h2⟩
        have := (mm x.2).mpr ⟨x, hx, ex, rfl⟩
        rw [h1] at this
        cases this
      · refine .inr ⟨(mm m).mp h1, fun x hx ex => h2 _ ((mm _).mpr ⟨x, hx, ex, rfl⟩)⟩
end
end Nu
namespace Nu
open PySem PySem.Spec PyProof.Rows L2
theorem ne_keys {K : PySem.W.Frag} {H : Hp} {t p q t' p' q' : Addr} {ls hs ls' hs' : List Int} {Q : VK} (ht : H t = some (.tup [.ref p, .ref q])) (hp : H p = some (.tup (ls.map V.int))) (hq : H q = some (.tup (hs.map V.int)))
    (ht' : H t' = some (.tup [.ref p', .ref q'])) (hp' : H p' = some (.tup (ls'.map V.int))) (hq' : H q' = some (.tup (hs'.map V.int))) (k : Q (.bl (!decide (((ls, hs) : LKey) = (ls', hs')))) H) : rNeD K (.ref t) (.ref t') H Q := by
  refine ⟨keyD ls hs, keyD ls' hs', dp_key ht hp hq, dp_key ht' hp' hq', key_shaped _ _, key_shaped _ _, ?_⟩
  rw [eqv_key]
  have e : (decide (ls = ls') && decide (hs = hs')) = decide (((ls, hs) : LKey) = (ls', hs')) := by
    by_cases e1 : ls = ls'
    · by_cases e2 : hs = hs'
      · simp [e1, e2]
      · simp [e1, e2]
    · simp [e1]
  rw [e]
  exact k
theorem max3_int (a b c : Int) : ∃ z, nuMax3 (.int a) (.int b) (.int c) = some (.int z) ∧ a ≤ z ∧ b ≤ z ∧ c ≤ z ∧ (z = a ∨ z = b ∨ z = c) := by
  have h2 : ∀ a b : Int, ∃ z, nuMax2 (.int a) (.int b) = some (.int z) ∧ a ≤ z ∧ b ≤ z ∧ (z = a ∨ z = b) := fun a b => by
    by_cases h : a < b
    · refine ⟨b, ?_, by omega, by omega, .inr rfl⟩
      show some (if decide (a < b) = true then V.int b else V.int a) = _
      rw [if_pos (decide_eq_true h)]
    · refine ⟨a, ?_, by omega, by omega, .inl rfl⟩
      show some (if decide (a < b) = true then V.int b else V.int a) = _
      rw [if_neg (by rw [decide_eq_false h]; exact Bool.false_ne_true)]
  obtain ⟨y, e1, h1, h2', h3⟩ := h2 a b
  obtain ⟨z, e4, h4, h5, h6⟩ := h2 y c
  refine ⟨z, ?_, by omega, by omega, by omega, by omega⟩
  show (nuMax2 (.int a) (.int b)).bind _ = _
  rw [e1]
  exact e4
section
variable {P : Program} {w : World} {K : PySem.W.Frag} {mg : Str → Option Value} {base : Heap} {a : Ad} {fd : Fd}
def spStands : Sp := fun vs H Q _ => ∃ (r t : Addr) (ts : List Addr) (rs : List RW) (x : RW) (c : Option Int), vs = [.ref r, .ref t, cV c] ∧ H r = some (.lst (ts.map V.ref)) ∧ RwsH H ts rs ∧ rs.length ≤ 700000 ∧ RwH H t x ∧ cOk c ∧ hw x c ∧ 0 < x.2 ∧
  (shn rs x c → ∀ H', Same H H' → Q (.bl true) H') ∧ (¬ shn rs x c → ∀ H', Same H H' → Q (.bl false) H')
theorem ok_l_stands (T : Txt K mg a fd) : FnOk P w K mg base CX0 2 a.l_stands fd.l_stands ["_law_rows", "_law_row", "_law_total"] spStands := by
  have G_l_narrow := ok_l_narrow (P := P) (w := w) (base := base) T
  have G_l_claimed := ok_l_claimed (P := P) (w := w) (base := base) T
  refine T.F_l_stands.ok sc_l_stands (fun vs H Q E h => ?_) (fun cdv A outer s0 H vs Q E hr h => ?_)
  · obtain ⟨r, t, ts, rs, x, c, rfl, _⟩ := h
    rfl
  · obtain ⟨r, t, ts, rs, x, c, rfl, hr0, hT, hl, ⟨p, q, ht, hp, hq⟩, oc, ⟨ib, nb⟩, e0, k1, k2⟩ := h
    obtain ⟨⟨ls, hs⟩, e⟩ := x
    have hp : H p = some (.tup (ls.map V.int)) := hp
    have hq : H q = some (.tup (hs.map V.int)) := hq
    have ib : isB (lof ls) (lof hs) ls.length hs.length := ib
    have nb : ¬ badC (sumF (lof ls) ls.length) (sumF (lof hs) ls.length) c := nb
    have c0 : ¬ e ≤ 0 := fun z => by
      have : 0 < e := e0
      omega
    have nn : ls.length = hs.length := ib.1
    have pL : H p = some (.tup ((LI (lof ls) ls.length).map V.int)) := by rw [LI_lof]; exact hp
    have qL : H q = some (.tup ((LI (lof hs) ls.length).map V.int)) := by rw [nn, LI_lof]; exact hq
    refine ⟨_, (pss_cons (ps_asg (pv 1) (pg_tup (by rfl) (pgs_cons (pg_name (i := 3) sc_l_stands.nd rfl (Or.inl rfl)) (pgs_cons (pg_name (i := 4) sc_l_stands.nd rfl (Or.inl rfl)) (pgs_cons (pg_name (i := 5) sc_l_stands.nd rfl (Or.inl rfl)) pgs_nil)))))
    (pss_cons (ps_if (PW.pt (pw_or (pt_cmpR (op_neD hr.units) (pe_call G_l_narrow (hr.mono (by decide)) (by rfl) T.g_l_narrow T.F_l_narrow.kp T.b_l_narrow .nil pass0 (pa_cons (pv 3) (pa_cons (pv 4) (pa_cons (pv 2) pa_nil)))) (pe_tup (pa_cons (pv 3) (pa_cons (pv 4) pa_nil))) (nomark _)) (pw_or1 (pt_cmpR (op_eqD hr.units) (pv 3) (pv 4) (nomark _))))) (pss_one (ps_ret pe_bl)) pss_nil)
    (pss_cons (ps_for PassesOwn.never rfl (pi_range1 (by rfl) T.n_range (pa_cons (pe_callB call_len_seq (by rfl) T.n_len PySem.boot_len (pa_cons (pv 3) pa_nil)) pa_nil)) (pg_name (i := 6) sc_l_stands.nd rfl (Or.inl rfl))
      (pss_one (ps_for PassesOwn.never rfl (pi_range2 (by rfl) T.n_range (pa_cons (pe_op op_add (pe_ix ix_tup (pv 3) (pv 6) (fun _ _ => rfl)) pe_int) (pa_cons (pe_op op_add (pe_ix ix_tup (pv 4) (pv 6) (fun _ _ => rfl)) pe_int) pa_nil))) (pg_name (i := 7) sc_l_stands.nd rfl (Or.inl rfl))
      (pss_cons (ps_set (i := 8) sc_l_stands.nd rfl (Or.inl rfl) (pe_call G_l_narrow (hr.mono (by decide)) (by rfl) T.g_l_narrow T.F_l_narrow.kp T.b_l_narrow .nil pass0 (pa_cons (pe_op op_catA (pe_op op_catA (pe_slice sl_tupA (pv 3) po_none (po_some (pv 6))) (pe_tup (pa_cons (pv 7) pa_nil))) (pe_slice sl_tupA (pv 3) (po_some (pe_op op_add (pv 6) pe_int)) po_none)) (pa_cons (pv 4) (pa_cons (pv 2) pa_nil)))))
    (pss_cons (ps_set (i := 9) sc_l_stands.nd rfl (Or.inl rfl) (pe_call G_l_narrow (hr.mono (by decide)) (by rfl) T.g_l_narrow T.F_l_narrow.kp T.b_l_narrow .nil pass0 (pa_cons (pv 3) (pa_cons (pe_op op_catA (pe_op op_catA (pe_slice sl_tupA (pv 4) po_none (po_some (pv 6))) (pe_tup (pa_cons (pe_op op_sub (pv 7) pe_int) pa_nil))) (pe_slice sl_tupA (pv 4) (po_some (pe_op op_add (pv 6) pe_int)) po_none)) (pa_cons (pv 2) pa_nil)))))
    (pss_one (ps_if (pt_cmpR op_lt (pe_callB (call_max3Nu rfl) (by rfl) T.n_max (by decide +kernel) (pa_cons (pe_call G_l_claimed (hr.mono (by decide)) (by rfl) T.g_l_claimed T.F_l_claimed.kp T.b_l_claimed .nil pass0 (pa_cons (pv 0) (pa_cons (pv 8) pa_nil))) (pa_cons (pe_call G_l_claimed (hr.mono (by decide)) (by rfl) T.g_l_claimed T.F_l_claimed.kp T.b_l_claimed .nil pass0 (pa_cons (pv 0) (pa_cons (pv 9) pa_nil))) (pa_cons pe_int pa_nil)))) (pe_op op_sub (pv 5) pe_int) (nomark _)) (pss_one (ps_ret pe_bl)) pss_nil)))))))
    (pss_one (ps_ret pe_bl))))), ?_⟩
    refine ⟨_, rfl, t, _, rfl, SqT.of ht, rfl, _, _, rfl, _, _, rfl, _, _, rfl, rfl, ?_⟩
    try dsimp only
    refine seq_go ?_
    refine ⟨_, rfl, _, rfl, _, rfl, p, q, lof ls, lof hs, ls.length, c, rfl, pL, qL, by have := ib.2.2.1; omega, fun z => absurd z nb, fun _ t1 p1 q1 H1 s1 ht1 hp1 hq1 => ?_⟩
    refine ⟨_, rfl, _, rfl, (by show 2 ≤ sizeLine; decide), fun t2 nt2 => ?_⟩
    have s2 : Same H1 (upd H1 t2 (.tup [V.ref p, V.ref q])) := same_upd nt2
    have s12 := s1.trans s2
    refine ne_keys (s2 _ _ ht1) (s2 _ _ hp1) (s2 _ _ hq1) upd_same (s12 _ _ hp) (s12 _ _ hq) ⟨_, rfl, ?_⟩
    generalize upd H1 t2 (.tup [V.ref p, V.ref q]) = H2 at s2 s12 ⊢
    by_cases t1 : LI (tlF (lof ls) (lof hs) ls.length c) ls.length = ls ∧ LI (thF (lof ls) (lof hs) ls.length c) ls.length = hs
    · rw [show (!decide (((LI (tlF (lof ls) (lof hs) ls.length c) ls.length, LI (thF (lof ls) (lof hs) ls.length c) ls.length) : LKey) = (ls, hs))) = false by rw [decide_eq_true (by rw [t1.1, t1.2])]; rfl]
      refine iteF ?_
      refine ⟨_, rfl, _, rfl, dw ls, dw hs, dp_tup (s12 _ _ hp), dp_tup (s12 _ _ hq), dw_shaped _, dw_shaped _, _, rfl, ?_⟩
      rw [eqv_dw]
      by_cases t2 : ls = hs
      · rw [decide_eq_true t2]
        refine iteT ?_
        exact k2 (fun z => z.elim c0 fun z => z.2.2.1 t2) _ s12
      · rw [decide_eq_false t2]
        refine iteF ?_
        refine next_go ?_
        refine seq_go ?_
        have T1 : ∀ i, i < ls.length → tlF (lof ls) (lof hs) ls.length c i = lof ls i := fun i hi => by
          have := t1.1
          have h2 : (LI (tlF (lof ls) (lof hs) ls.length c) ls.length)[i]? = ls[i]? := by rw [this]
          rw [LI_at _ hi, List.getElem?_eq_getElem hi] at h2
          rw [lof_at (List.getElem?_eq_getElem hi)]
          exact Option.some.inj h2
        have T2 : ∀ i, i < ls.length → thF (lof ls) (lof hs) ls.length c i = lof hs i := fun i hi => by
          have := t1.2
          have h2 : (LI (thF (lof ls) (lof hs) ls.length c) ls.length)[i]? = hs[i]? := by rw [this]
          have hi' : i < hs.length := by omega
          rw [LI_at _ hi, List.getElem?_eq_getElem hi'] at h2
          rw [lof_at (List.getElem?_eq_getElem hi')]
          exact Option.some.inj h2
        have X : Bx (lof ls) (lof hs) ls.length c := ⟨ib.2.2.1, fun i hi => by
          have := ib.2.2.2 i hi
          omega, ⟨fun i hi => (ib.2.2.2 i hi).2.1, nb, T1, T2⟩, oc⟩
        obtain ⟨n, en⟩ : ∃ n, ls.length = n := ⟨_, rfl⟩
        obtain ⟨lw, elw⟩ : ∃ lw, lof ls = lw := ⟨_, rfl⟩
        obtain ⟨hg, ehg⟩ : ∃ hg, lof hs = hg := ⟨_, rfl⟩
        have k2' : (∃ k m, LkOk lw hg n k m ∧ ¬ lvs rs lw hg n c k m (e - 1)) → ∀ H', Same H H' → Q (.bl false) H' := fun ⟨k, m, lk, nl⟩ => k2 fun z => z.elim c0 fun z => nl (by
          have := z.2.2.2 k m
          rw [← en, ← elw, ← ehg]
          exact this (by rw [← en, ← elw, ← ehg] at lk; exact lk))
        have k1' : (∀ k m, LkOk lw hg n k m → lvs rs lw hg n c k m (e - 1)) → ∀ H', Same H H' → Q (.bl true) H' := fun h => k1 (.inr ⟨t1.1, t1.2, t2, fun k m lk => by
          have := h k m
          rw [← en, ← elw, ← ehg] at this
          exact this lk⟩)
        rw [elw, ehg, en] at X
        rw [elw, en] at pL
        rw [ehg, en] at qL
        have n3 := X.nn
        have lp : ((LI lw n).map V.int).length = n := by rw [List.length_map, LI_len]
        have lq : ((LI hg n).map V.int).length = n := by rw [List.length_map, LI_len]
        have hp2 := s12 _ _ pL
        have hq2 := s12 _ _ qL
        refine ⟨_, rfl, p, _, rfl, .inr (SqT.of hp2), _, rfl, by omega, by rw [lp]; omega, ?_⟩
        rw [lp]
        refine for_range (lo := 0) (n := ((n : Nat) : Int).toNat) (fun j σ H' => ∃ (v6 v7 v8 v9 : Option V), σ = [some (.ref r), some (.ref t), some (cV c), some (.ref p), some (.ref q), some (.int e), v6, v7, v8, v9] ∧ Same H2 H' ∧ ∀ k m, LkOk lw hg n k m → k < j → lvs rs lw hg n c k m (e - 1))
          ⟨none, none, none, none, rfl, Same.refl _, fun k m _ z => absurd z (Nat.not_lt_zero _)⟩ ?_ ?_
        · rintro k σ H3 hk ⟨v6, v7, v8, v9, rfl, s3, hF⟩
          have hk : k < n := by omega
          have ek : (0 : Int) + (k : Int) = (k : Int) := by omega
          have hp3 := s3 _ _ hp2
          have hq3 := s3 _ _ hq2
          have bl := X.sm k hk
          rw [ek]
          refine gName_go ?_
          refine ⟨_, rfl, _, rfl, p, _, (k : Int), _, rfl, rfl, SqT.of hp3, atI_nat (LI_atV hk), _, _, rfl, rfl, ?_⟩
          refine ⟨_, rfl, _, rfl, q, _, (k : Int), _, rfl, rfl, SqT.of hq3, atI_nat (LI_atV hk), _, _, rfl, rfl, ?_⟩
          have ble := X.tg.le k hk
          refine ⟨_, _, rfl, ⟨by omega, by omega, by omega, by omega⟩, ?_⟩
          refine for_range (lo := lw k + 1) (n := (hg k + 1 - (lw k + 1)).toNat) (fun i σ H' => ∃ (v7 v8 v9 : Option V), σ = [some (.ref r), some (.ref t), some (cV c), some (.ref p), some (.ref q), some (.int e), some (.int (k : Int)), v7, v8, v9] ∧ Same H3 H' ∧ ∀ k' m, LkOk lw hg n k' m → (k' < k ∨ (k' = k ∧ m < lw k + 1 + (i : Int))) → lvs rs lw hg n c k' m (e - 1))
            ⟨v7, v8, v9, rfl, Same.refl _, fun k' m l d => d.elim (hF k' m l) fun ⟨z1, z2⟩ => by
              subst z1
              have := l.2.1
              omega⟩ ?_ ?_
          · clear hF
            rintro i σ H4 hi ⟨v7, v8, v9, rfl, s4, hF⟩
            obtain ⟨m, hm⟩ : ∃ m : Int, lw k + 1 + (i : Int) = m := ⟨_, rfl⟩
            rw [hm]
            have m1 : lw k < m := by omega
            have m2 : m ≤ hg k := by omega
            have hp4 := s4 _ _ hp3
            have hq4 := s4 _ _ hq3
            have ty := X.tg.yes hk m1 m2
            have tn := X.tg.no hk m1 m2
            have e1 : (k : Int) + 1 = ((k + 1 : Nat) : Int) := by omega
            refine gName_go ?_
            try dsimp only
            refine seq_go ?_
            refine ⟨_, rfl, _, rfl, _, rfl, slTo_go hp4 fun p1 H5 s5 hp5 => ?_⟩
            refine ⟨_, rfl, (by show 1 ≤ sizeLine; decide), fun t1 nt1 => ?_⟩
            have a1 := s5.trans (same_upd (o := .tup [V.int m]) nt1)
            refine cat_go (same_upd nt1 _ _ hp5) upd_same (by rw [List.length_take, lp, List.length_singleton]; omega) fun p2 H6 s6 hp6 => ?_
            have a2 := a1.trans s6
            refine ⟨_, rfl, _, rfl, _, _, rfl, rfl, ((k + 1 : Nat) : Int), congrArg V.int e1, ?_⟩
            dsimp only [tNoPart]
            refine slFrom_go (j := k + 1) (a2 _ _ hp4) (by rw [lp]; omega) fun p3 H7 s7 hp7 => ?_
            have a3 := a2.trans s7
            refine cat_go (s7 _ _ hp6) hp7 (by rw [List.length_append, List.length_take, List.length_drop, lp, List.length_singleton]; omega) fun pp4 H8 s8 hp8 => ?_
            rw [map_LI_upd m hk] at hp8
            have a4 := a3.trans s8
            refine ⟨_, rfl, _, rfl, pp4, q, yLo lw k m, hg, n, c, rfl, hp8, a4 _ _ hq4, by omega, fun z => absurd z ty.2, fun _ tY pY qY H9 s9 htY hpY hqY => ?_⟩
            have a5 := a4.trans s9
            refine gName_go ?_
            try dsimp only
            refine seq_go ?_
            refine ⟨_, rfl, _, rfl, _, rfl, _, rfl, slTo_go (a5 _ _ hq4) fun p1 H10 s10 hp1 => ?_⟩
            refine ⟨_, rfl, _, _, rfl, rfl, (by show 1 ≤ sizeLine; decide), fun t1 nt1 => ?_⟩
            have a6 := s10.trans (same_upd (o := .tup [V.int (m - 1)]) nt1)
            refine cat_go (same_upd nt1 _ _ hp1) upd_same (by rw [List.length_take, lq, List.length_singleton]; omega) fun p2 H11 s11 hp2 => ?_
            have a7 := a6.trans s11
            refine ⟨_, rfl, _, rfl, _, _, rfl, rfl, ((k + 1 : Nat) : Int), congrArg V.int e1, ?_⟩
            dsimp only [tNoPart]
            refine slFrom_go (j := k + 1) (a7 _ _ (a5 _ _ hq4)) (by rw [lq]; omega) fun p3 H12 s12' hp9 => ?_
            have a8 := a7.trans s12'
            refine cat_go (s12' _ _ hp2) hp9 (by rw [List.length_append, List.length_take, List.length_drop, lq, List.length_singleton]; omega) fun p5 H13 s13 hp10 => ?_
            rw [map_LI_upd (m - 1) hk] at hp10
            have a9 := a8.trans s13
            refine ⟨_, rfl, p, p5, lw, yLo hg k (m - 1), n, c, rfl, a9 _ _ (a5 _ _ hp4), hp10, by omega, fun z => absurd z tn.2, fun _ tN pN qN H14 s14 htN hpN hqN => ?_⟩
            refine gName_go ?_
            try dsimp only
            have a10 := a9.trans s14
            have s414 := a5.trans a10
            have s014 := ((s12.trans s3).trans s4).trans s414
            refine ⟨_, rfl, _, rfl, r, tY, pY, qY, ts, rs, _, _, rfl, s014 _ _ hr0, hT.same s014, hl, a10 _ _ htY, a10 _ _ hpY, a10 _ _ hqY, fun MY hMY H15 s15 => ?_⟩
            refine ⟨_, rfl, _, rfl, r, tN, pN, qN, ts, rs, _, _, rfl, s15 _ _ (s014 _ _ hr0), hT.same (s014.trans s15), hl, s15 _ _ htN, s15 _ _ hpN, s15 _ _ hqN, fun MN hMN H16 s16 => ?_⟩
            obtain ⟨M, eM, b1, b2, b3, b4⟩ := max3_int MY MN 0
            refine ⟨_, _, _, _, rfl, eM, _, rfl, _, _, rfl, rfl, _, _, rfl, rfl, _, rfl, ?_⟩
            have s416 := (s414.trans s15).trans s16
            have s016 := (s014.trans s15).trans s16
            have lvi : lvs rs lw hg n c k m (e - 1) ↔ e - 1 ≤ M := by
              unfold lvs
              by_cases z : e - 1 ≤ 0
              · exact ⟨fun _ => by omega, fun _ => .inl (.inl z)⟩
              · rw [hMY.clm (by omega), hMN.clm (by omega)]
                omega
            by_cases g : M < e - 1
            · rw [decide_eq_true g]
              refine iteT ?_
              exact k2' ⟨k, m, ⟨hk, by omega, m2⟩, fun z => by have := lvi.mp z; omega⟩ _ s016
            · rw [decide_eq_false g]
              refine iteF ?_
              refine ⟨_, _, _, rfl, s4.trans s416, fun k' m' l d => ?_⟩
              by_cases q1 : k' = k ∧ m' = m
              · obtain ⟨rfl, rfl⟩ := q1
                exact lvi.mpr (by omega)
              · refine hF k' m' l (d.elim .inl fun ⟨z1, z2⟩ => .inr ⟨z1, ?_⟩)
                have : ¬ m' = m := fun z => q1 ⟨z1, z⟩
                omega
          · rintro σ H4 ⟨v7, v8, v9, rfl, s4, hF⟩
            refine ⟨_, _, _, _, rfl, s3.trans s4, fun k' m' l d => hF k' m' l ?_⟩
            by_cases q1 : k' = k
            · refine .inr ⟨q1, ?_⟩
              have := l.2.2
              rw [q1] at this
              omega
            · exact .inl (by omega)
        · rintro σ H3 ⟨v6, v7, v8, v9, rfl, s3, hF⟩
          refine next_go ?_
          refine k1' (fun k m l => hF k m l ?_) _ (s12.trans s3)
          have := l.1
          omega
    · have ef : (!decide (((LI (tlF (lof ls) (lof hs) ls.length c) ls.length, LI (thF (lof ls) (lof hs) ls.length c) ls.length) : LKey) = (ls, hs))) = true := by
        rw [decide_eq_false (fun z => t1 (by injection z with z1 z2; exact ⟨z1, z2⟩))]
        rfl
      rw [ef]
      refine iteT (iteT ?_)
      exact k2 (fun z => z.elim c0 fun z => t1 ⟨z.1, z.2.1⟩) _ s12
end
end Nu
namespace Nu
open PySem PySem.Spec PyProof.Rows L2
def posL (rs : List RW) : List RW := rs.filter fun x => decide (x.2 > 0)
theorem RwsH.of_all {H : Hp} : ∀ {ts : List Addr}, (∀ u ∈ ts, ∃ x, RwH H u x) → ∃ rs, RwsH H ts rs
  | [], _ => ⟨[], rfl, fun i t x e => by simp at e⟩
  | t :: ts, h => by
    obtain ⟨x, h1⟩ := h t List.mem_cons_self
    obtain ⟨rs, h3⟩ := RwsH.of_all (ts := ts) fun u hu => h u (List.mem_cons_of_mem _ hu)
    refine ⟨x :: rs, by rw [List.length_cons, List.length_cons, h3.len], fun i t' x' e1 e2 => ?_⟩
    cases i with
    | zero =>
      cases e1
      cases e2
      exact h1
    | succ i => exact h3.at_ i t' x' e1 e2
section
variable {P : Program} {w : World} {K : PySem.W.Frag} {mg : Str → Option Value} {base : Heap} {a : Ad} {fd : Fd}
def spLShown : Sp := fun vs H Q _ => ∃ (v : V) (r : Addr) (lw hg : Nat → Int) (n : Nat) (c : Option Int) (e : Int) (ts : List Addr) (rs : List RW), vs = [v, .int e, .ref r] ∧ BoxH H v lw hg n n c ∧ cOk c ∧ isB lw hg n n ∧ ¬ badC (sumF lw n) (sumF hg n) c ∧ H r = some (.lst (ts.map V.ref)) ∧ RwsH H ts rs ∧ rs.length ≤ 700000 ∧ (∀ x ∈ rs, RwOk x) ∧
  (ShowsP rs lw hg n c e → ∀ H', Same H H' → Q (.bl true) H') ∧ (¬ ShowsP rs lw hg n c e → ∀ H', Same H H' → Q (.bl false) H')
theorem ok_l_shown (T : Txt K mg a fd) : FnOk P w K mg base CX0 3 a.l_shown fd.l_shown ["_law_box_here", "_law_depth", "_law_rows"] spLShown := by
  have G_l_narrow := ok_l_narrow (P := P) (w := w) (base := base) T
  have G_l_claimed := ok_l_claimed (P := P) (w := w) (base := base) T
  have G_l_is_box := ok_l_is_box (P := P) (w := w) (base := base) T
  have G_l_stands := ok_l_stands (P := P) (w := w) (base := base) T
  refine T.F_l_shown.ok sc_l_shown (fun vs H Q E h => ?_) (fun cdv A outer s0 H vs Q E hr h => ?_)
  · obtain ⟨v, r, lw, hg, n, c, e, ts, rs, rfl, _⟩ := h
    rfl
  · obtain ⟨v, r, lw, hg, n, c, e, ts, rs, rfl, ⟨b, bp, bq, rfl, hb, hbp, hbq⟩, oc, ib, nb, hr0, hT, hl, hok, k1, k2⟩ := h
    refine ⟨_, (pss_cons (ps_for PassesOwn.never rfl (pi_list (pv 2)) (pg_tup (by rfl) (pgs_cons (pg_name (i := 3) sc_l_shown.nd rfl (Or.inl rfl)) (pgs_cons (pg_name (i := 4) sc_l_shown.nd rfl (Or.inl rfl)) (pgs_cons (pg_name (i := 5) sc_l_shown.nd rfl (Or.inl rfl)) pgs_nil))))
      (pss_one (ps_if (PW.pt (pw_or (pt_not (pt_val (pe_call G_l_is_box (hr.mono (by decide)) (by rfl) T.g_l_is_box T.F_l_is_box.kp T.b_l_is_box .nil pass0 (pa_cons (pv 3) (pa_cons (pv 4) pa_nil))))) (pw_or1 (pt_cmpR op_isN (pe_call G_l_narrow (hr.mono (by decide)) (by rfl) T.g_l_narrow T.F_l_narrow.kp T.b_l_narrow .nil pass0 (pa_cons (pv 3) (pa_cons (pv 4) (pa_cons (pe_ix ix_tup (pv 0) pe_int (fun _ _ => rfl)) pa_nil)))) pe_non (nomark _))))) (pss_one (ps_ret pe_bl)) pss_nil)))
    (pss_cons (ps_set (i := 6) sc_l_shown.nd rfl (Or.inl rfl) (pe_call G_l_narrow (hr.mono (by decide)) (by rfl) T.g_l_narrow T.F_l_narrow.kp T.b_l_narrow .nil pass0 (pa_cons (pe_ix ix_tup (pv 0) pe_int (fun _ _ => rfl)) (pa_cons (pe_ix ix_tup (pv 0) pe_int (fun _ _ => rfl)) (pa_cons (pe_ix ix_tup (pv 0) pe_int (fun _ _ => rfl)) pa_nil)))))
    (pss_cons (ps_if (PW.pt (pw_and (pt_cmpR op_gt (pv 1) pe_int (nomark _)) (pw_and1 (pt_cmpR op_lt (pe_call G_l_claimed (hr.mono (by decide)) (by rfl) T.g_l_claimed T.F_l_claimed.kp T.b_l_claimed .nil pass0 (pa_cons (pv 2) (pa_cons (pv 6) pa_nil))) (pv 1) (nomark _))))) (pss_one (ps_ret pe_bl)) pss_nil)
    (pss_cons (ps_setLc (i := 7) (own := [("_law_row", 8)]) (g := gName 8) (by rfl) sc_l_shown.nd rfl rfl (sw_true rfl rfl rfl (by decide +kernel)) (pi_list (pv 2)) (blkOk_by (own := [("_law_row", 8)]) (N := ["_law_box_here", "_law_depth", "_law_rows", "_law_lows", "_law_highs", "_law_claim", "_law_sides", "_law_claims", "_law_row"]) (sc := defScope s_l_shown) (by decide +kernel)) (fun _ _ _ _ _ => pg_name (i := 8) sc_l_shown.nd rfl (Or.inl rfl)) (fun _ _ _ _ _ => (pts_one (pt_cmpR op_gt (pe_ix (ixT_K (K := K) rfl) (pv 8) pe_int (fun _ _ => rfl)) pe_int (nomark _)))) (fun _ _ _ _ _ => (pv 8)))
    (pss_one (ps_ret (pe_cmpR (op_eqD hr.units) (pe_lc (own := [("_law_row", 8)]) (g := gName 8) (by rfl) sc_l_shown.nd (pi_list (pv 7)) (blkOk_by (own := [("_law_row", 8)]) (N := ["_law_box_here", "_law_depth", "_law_rows", "_law_lows", "_law_highs", "_law_claim", "_law_sides", "_law_claims", "_law_row"]) (sc := defScope s_l_shown) (by decide +kernel)) (fun _ _ _ _ _ => pg_name (i := 8) sc_l_shown.nd rfl (Or.inl rfl)) (fun _ _ _ _ _ => (pts_one (pt_not (pt_val (pe_call G_l_stands (hr.mono (by decide)) (by rfl) T.g_l_stands T.F_l_stands.kp T.b_l_stands .nil pass0 (pa_cons (pv 2) (pa_cons (pv 8) (pa_cons (pe_ix (ixT_K (K := K) rfl) (pv 0) pe_int (fun _ _ => rfl)) pa_nil)))))))) (fun _ _ _ _ _ => (pv 8))) (pe_lst pa_nil) (nomark _)))))))), ?_⟩
    have lT : ts.length = rs.length := hT.len
    refine ⟨_, rfl, r, rfl, ⟨_, SqL.of hr0⟩, ?_⟩
    refine for_list (K := K) (a := r) (xs := ts.map V.ref) (fun j σ H' => ∃ (v3 v4 v5 : Option V), σ = [some (.ref b), some (.int e), some (.ref r), v3, v4, v5, none, none, none] ∧ Same H H' ∧ ∀ i x, i < j → rs[i]? = some x → hw x c)
      ⟨none, none, none, rfl, Same.refl _, fun i x z => absurd z (Nat.not_lt_zero _)⟩ (fun j σ H' _ ⟨_, _, _, _, s, _⟩ => SqL.of (s _ _ hr0)) ?_ ?_
    · rintro j y σ H1 hy ⟨v3, v4, v5, rfl, s1, hI⟩
      rw [List.getElem?_map] at hy
      obtain ⟨u, eu, rfl⟩ := Option.map_eq_some_iff.mp hy
      obtain ⟨x, ex, p, q, hu, hp, hq⟩ := (hT.same s1).get eu
      have xm := List.mem_of_getElem? ex
      have ok := hok x xm
      refine ⟨u, _, rfl, SqT.of hu, rfl, _, _, rfl, _, _, rfl, _, _, rfl, rfl, ?_⟩
      refine ⟨_, rfl, _, rfl, p, q, x.1.1, x.1.2, rfl, hp, hq, ok.l1, ok.l2, fun y H2 s2 => ⟨_, rfl, iteF ?_⟩, fun y H2 s2 => ⟨_, rfl, iteT ?_⟩⟩
      · have s12 := s1.trans s2
        have nn : x.1.1.length = x.1.2.length := y.1
        refine ⟨_, rfl, _, rfl, _, rfl, b, _, 2, _, rfl, rfl, SqT.of (s12 _ _ hb), rfl, p, q, lof x.1.1, lof x.1.2, x.1.1.length, c, rfl, by rw [LI_lof]; exact s2 _ _ hp, by rw [nn, LI_lof]; exact s2 _ _ hq, by have := y.2.2.1; omega, fun bad => ?_, fun nb1 t1 p1 q1 H3 s3 ht1 hp1 hq1 => ?_⟩
        · refine ⟨rfl, _, rfl, iteT ?_⟩
          exact k2 (fun z => (z.1 x xm).2 bad) _ s12
        · refine ⟨rfl, _, rfl, iteF ?_⟩
          refine ⟨_, _, _, rfl, s12.trans s3, fun i x' hi ei => ?_⟩
          by_cases q1 : i = j
          · rw [q1, ex] at ei
            cases ei
            exact ⟨y, nb1⟩
          · exact hI i x' (by omega) ei
      · exact k2 (fun z => y (z.1 x xm).1) _ (s1.trans s2)
    · rintro σ H1 ⟨v3, v4, v5, rfl, s1, hI⟩
      rw [List.length_map] at hI
      have hws : ∀ x ∈ rs, hw x c := fun x hx => by
        obtain ⟨i, hi, rfl⟩ := List.mem_iff_getElem.mp hx
        exact hI i _ (by omega) (List.getElem?_eq_getElem hi)
      refine next_go ?_
      refine seq_go ?_
      refine ⟨_, rfl, b, _, 0, _, rfl, rfl, SqT.of (s1 _ _ hb), rfl, _, rfl, b, _, 1, _, rfl, rfl, SqT.of (s1 _ _ hb), rfl, _, rfl, b, _, 2, _, rfl, rfl, SqT.of (s1 _ _ hb), rfl, ?_⟩
      refine ⟨bp, bq, lw, hg, n, c, rfl, s1 _ _ hbp, s1 _ _ hbq, by have := ib.2.2.1; omega, fun z => absurd z nb, fun _ tS pS qS H2 s2 htS hpS hqS => ?_⟩
      have s12 := s1.trans s2
      refine gName_go ?_
      try dsimp only
      refine seq_go ?_
      have hr2 := s12 _ _ hr0
      have hT2 := hT.same s12
      -- what is claimed of the box
      have fin : ¬ clm rs (LI (tlF lw hg n c) n, LI (thF lw hg n c) n) e → ∀ H', Same H H' → Q (.bl false) H' := fun z => k2 fun y => z y.2.1
      refine ifS_join (fun σ' H' => (σ' = [some (.ref b), some (.int e), some (.ref r), v3, v4, v5, some (.ref tS), none, none]) ∧ Same H H' ∧ clm rs (LI (tlF lw hg n c) n, LI (thF lw hg n c) n) e) (fun nx hnx => ?_) ?_
      · refine ⟨_, rfl, _, _, rfl, rfl, _, rfl, ?_⟩
        by_cases e0 : e > 0
        · rw [decide_eq_true e0]
          refine iteT ?_
          refine ⟨_, rfl, _, rfl, r, tS, pS, qS, ts, rs, _, _, rfl, hr2, hT2, hl, htS, hpS, hqS, fun M hM H3 s3 => ?_⟩
          refine ⟨_, rfl, _, _, rfl, rfl, _, rfl, ?_⟩
          by_cases g : M < e
          · rw [decide_eq_true g]
            refine iteT ?_
            exact fin (fun z => by have := (hM.clm e0).mp z; omega) _ (s12.trans s3)
          · rw [decide_eq_false g]
            refine iteF ?_
            exact hnx _ _ ⟨rfl, s12.trans s3, (hM.clm e0).mpr (by omega)⟩
        · rw [decide_eq_false e0]
          refine iteF ?_
          exact hnx _ _ ⟨rfl, s12, .inl (by omega)⟩
      · rintro σ H3 ⟨rfl, s3, hC⟩
        refine next_go ?_
        refine seq_go ?_
        have hr3 := s3 _ _ hr0
        have hT3 := hT.same s3
        refine ⟨_, rfl, r, rfl, ⟨_, SqL.of hr3⟩, fun D nD => ?_⟩
        refine lc_list (K := K) (a := r) (xs := ts.map V.ref) (fun j H' => ∃ cs : List Addr, Same H3 H' ∧ H' D = some (.lst (cs.map V.ref)) ∧ RwsH H' cs (posL (rs.take j))) ⟨[], same_upd nD, upd_same, rfl, fun i t x e => by simp at e⟩ (fun j H' _ ⟨_, s, _⟩ => SqL.of (s _ _ hr3)) ?_ ?_
        · rintro j y H4 hy ⟨cs, s4, hD, hC4⟩
          rw [List.getElem?_map] at hy
          obtain ⟨u, eu, rfl⟩ := Option.map_eq_some_iff.mp hy
          obtain ⟨x, ex, hx⟩ := (hT3.same s4).get eu
          obtain ⟨p, q, hu, hp, hq⟩ := id hx
          have tk := take_snoc ex
          have lc := hC4.len
          have lp : (posL (rs.take j)).length ≤ 700000 := by
            have := List.length_filter_le (fun x : RW => decide (x.2 > 0)) (rs.take j)
            rw [List.length_take] at this
            unfold posL
            omega
          refine ⟨wipe1 _ _ _, ?_⟩
          refine ⟨_, rfl, u, _, 2, _, rfl, rfl, SqT.of hu, rfl, _, _, rfl, rfl, _, rfl, ?_⟩
          by_cases g : x.2 > 0
          · rw [decide_eq_true g]
            refine iteT ?_
            have tp : ∀ c' xs, H4 c' = some (.tup xs) → (upd H4 D (.lst (cs.map V.ref ++ [V.ref u]))) c' = some (.tup xs) := fun c' xs z => by
              rw [upd_ne (fun q => by rw [q, hD] at z; cases z)]
              exact z
            refine ⟨_, rfl, _, hD, by rw [List.length_map, sizeLine_eq]; omega, cs ++ [u], fun c' o z => ?_, by rw [upd_same, List.map_append]; rfl, ?_⟩
            · rw [upd_ne (fun q => by rw [q, nD] at z; cases z)]
              exact s4 _ _ z
            · rw [tk]
              unfold posL
              rw [List.filter_append, List.filter_cons_of_pos (p := fun x : RW => decide (x.2 > 0)) (decide_eq_true g)]
              exact (hC4.snoc hx).mono tp
          · rw [decide_eq_false g]
            refine iteF ⟨cs, s4, hD, ?_⟩
            rw [tk]
            unfold posL
            rw [List.filter_append, List.filter_cons_of_neg (p := fun x : RW => decide (x.2 > 0)) (by rw [decide_eq_false g]; exact Bool.false_ne_true), List.filter_nil, List.append_nil]
            exact hC4
        · rintro H4 ⟨cs, s4, hD, hC4⟩
          rw [List.length_map, lT, List.take_length] at hC4
          have s34 := s3.trans s4
          have hT4 := hT.same s34
          have lc := hC4.len
          have lp : (posL rs).length ≤ 700000 := by
            have := List.length_filter_le (fun x : RW => decide (x.2 > 0)) rs
            unfold posL
            omega
          refine gName_go ?_
          try dsimp only
          refine ⟨_, rfl, D, rfl, ⟨_, SqL.of hD⟩, fun D2 nD2 => ?_⟩
          refine lc_list (K := K) (a := D) (xs := cs.map V.ref) (fun j H' => ∃ as : List Addr, Same H4 H' ∧ H' D2 = some (.lst (as.map V.ref)) ∧ (∀ u ∈ as, ∃ x, RwH H' u x) ∧ as.length ≤ j ∧ (as = [] ↔ ∀ x ∈ (posL rs).take j, shn rs x c)) ⟨[], same_upd nD2, upd_same, fun u hu => (by cases hu), Nat.le_refl _, fun _ x hx => (by cases hx), fun _ => rfl⟩ (fun j H' _ ⟨_, s, _⟩ => SqL.of (s _ _ hD)) ?_ ?_
          · rintro j y H5 hy ⟨as, s5, hD2, hA, la, ha⟩
            have hj : j < cs.length := by
              have := (List.getElem?_eq_some_iff.mp hy).1
              rw [List.length_map] at this
              exact this
            rw [List.getElem?_map] at hy
            obtain ⟨u, eu, rfl⟩ := Option.map_eq_some_iff.mp hy
            obtain ⟨x, ex, hx⟩ := (hC4.same s5).get eu
            have tk := take_snoc ex
            have xm := List.mem_of_getElem? ex
            obtain ⟨xm1, xm2⟩ := List.mem_filter.mp xm
            have s035 := s34.trans s5
            refine ⟨wipe1 _ _ _, ?_⟩
            refine ⟨_, rfl, _, rfl, _, rfl, b, _, 2, _, rfl, rfl, SqT.of (s035 _ _ hb), rfl, r, u, ts, rs, x, c, rfl, s035 _ _ hr0, hT.same s035, hl, hx, oc, hws x xm1, of_decide_eq_true xm2, fun y H6 s6 => ⟨_, rfl, iteF ?_⟩, fun y H6 s6 => ⟨_, rfl, iteT ?_⟩⟩
            · refine ⟨as, s5.trans s6, s6 _ _ hD2, fun u hu => ?_, by omega, ?_⟩
              · obtain ⟨x', h'⟩ := hA u hu
                exact ⟨x', h'.mono fun c' xs z => s6 _ _ z⟩
              · rw [tk, ha]
                constructor
                · intro h x' hx'
                  rcases List.mem_append.mp hx' with z | z
                  · exact h x' z
                  · rw [List.mem_singleton.mp z]
                    exact y
                · exact fun h x' hx' => h x' (List.mem_append.mpr (.inl hx'))
            · have hD6 := s6 _ _ hD2
              refine ⟨_, rfl, _, hD6, by rw [List.length_map, sizeLine_eq]; omega, as ++ [u], fun c' o z => ?_, by rw [upd_same, List.map_append]; rfl, fun v hv => ?_, by rw [List.length_append]; simp; omega, fun z => by simp at z, fun z => ?_⟩
              · rw [upd_ne (fun q => by rw [q, nD2] at z; cases z)]
                exact s6 _ _ (s5 _ _ z)
              · have : ∃ x', RwH H6 v x' := by
                  rcases List.mem_append.mp hv with hv | hv
                  · obtain ⟨x', h'⟩ := hA v hv
                    exact ⟨x', h'.mono fun c' xs z => s6 _ _ z⟩
                  · rw [List.mem_singleton.mp hv]
                    exact ⟨x, hx.mono fun c' xs z => s6 _ _ z⟩
                obtain ⟨x', h'⟩ := this
                refine ⟨x', h'.mono fun c' xs z => ?_⟩
                rw [upd_ne (fun q => by rw [q, hD6] at z; cases z)]
                exact z
              · refine absurd (z x ?_) y
                rw [tk]
                exact List.mem_append.mpr (.inr (List.mem_singleton.mpr rfl))
          · rintro H5 ⟨as, s5, hD2, hA, la, ha⟩
            rw [List.length_map, lc, List.take_length] at ha
            obtain ⟨qs, hQ⟩ := RwsH.of_all hA
            refine ⟨Nat.zero_le _, fun e' ne => ?_⟩
            have s6 := same_upd (o := .lst []) ne
            refine eq_rows (s6 _ _ hD2) (hQ.same s6) upd_same ?_
            have s06 := (s34.trans s5).trans s6
            have lq := hQ.len
            by_cases z : as = []
            · rw [show qs.isEmpty = true by
                rw [z] at lq
                rw [List.eq_nil_of_length_eq_zero lq.symm]
                rfl]
              refine k1 ⟨hws, hC, fun x hx => ?_⟩ _ s06
              by_cases g : x.2 > 0
              · exact ha.mp z x (List.mem_filter.mpr ⟨hx, decide_eq_true g⟩)
              · exact .inl (by omega)
            · rw [show qs.isEmpty = false by
                cases qs with
                | nil => exact absurd (List.eq_nil_of_length_eq_zero lq) z
                | cons x r => rfl]
              exact k2 (fun h => z (ha.mpr fun x hx => h.2.2 x (List.mem_filter.mp hx).1)) _ s06
end
end Nu
namespace Nu
open PySem PySem.Spec PyProof.Rows L2
theorem bok_small {lw hg : Nat → Int} {n : Nat} {c : Option Int} (ib : isB lw hg n n) (oc : cOk c) : BOk lw hg n n c := ⟨by have := ib.2.2.1; omega, by have := ib.2.2.1; omega, fun i hi => intOkS (ib.2.2.2 i hi).1 (by have := ib.2.2.2 i hi; omega), fun i hi => intOkS (by have := ib.2.2.2 i hi; omega) (by have := ib.2.2.2 i hi; omega), oc⟩
theorem nil_w {K : PySem.W.Frag} {H : Hp} {p e : Addr} {ts : List Addr} {ws : List (List Int)} {Q : VK} (hp : H p = some (.lst (ts.map V.ref))) (hT : TL H ts ws) (he : H e = some (.lst [])) (q : Q (.bl (!ws.isEmpty)) H) : rNeD K (.ref p) (.ref e) H Q := by
  refine ⟨.list (ws.map dw), .list [], .lst (SqL.of hp) (dp_worlds ts ws hT), .lst (SqL.of he) .nil, dws_shaped _, by decide, ?_⟩
  cases ws with
  | nil => exact q
  | cons x r => exact q
theorem Drw.nlst {K : PySem.W.Frag} {H : Hp} {s sc u : Addr} {ns : List Int} {ts : List Addr} (D : Drw K H s sc ns) (h : H u = some (.lst (ts.map V.ref))) : u ∉ [s] := fun z => by
  obtain ⟨i, m', r', e, _⟩ := D.at_
  rw [List.mem_singleton.mp z, e] at h
  have h1 := Option.some.inj h
  injection h1 with h1
  have h2 : (ts.map V.ref)[1]? = some (V.int i) := by rw [← h1]; rfl
  rw [List.getElem?_map] at h2
  obtain ⟨u, _, h3⟩ := Option.map_eq_some_iff.mp h2
  cases h3
theorem eqv_rows : ∀ rs : List RW, PyData.eqvAll (rs.map rowD) (rs.map rowD) = true
  | [] => by
    show PyData.eqvAll [] [] = true
    simp only [PyData.eqvAll]
  | x :: r => by
    show PyData.eqvAll (rowD x :: r.map rowD) (rowD x :: r.map rowD) = true
    have e : PyData.eqv (rowD x) (rowD x) = true := by
      unfold rowD
      simp only [PyData.eqv, PyData.eqvAll, eqv_dw, decide_true, Bool.and_true, Bool.true_and, beq_self_eq_true]
    simp only [PyData.eqvAll, e, eqv_rows r, Bool.and_true]
theorem ne_same {K : PySem.W.Frag} {H : Hp} {p e : Addr} {ts : List Addr} {rs : List RW} {Q : VK} (hp : H p = some (.lst (ts.map V.ref))) (he : H e = some (.lst (ts.map V.ref))) (hT : RwsH H ts rs) (q : Q (.bl false) H) : rNeD K (.ref p) (.ref e) H Q := by
  refine ⟨.list (rs.map rowD), .list (rs.map rowD), .lst (SqL.of hp) (dp_rows ts rs hT), .lst (SqL.of he) (dp_rows ts rs hT), rows_shaped rs, rows_shaped rs, ?_⟩
  have e : PyData.eqv (.list (rs.map rowD)) (.list (rs.map rowD)) = true := by
    simp only [PyData.eqv, eqv_rows]
  rw [e]
  exact q
theorem wdLI (F G : Nat → Int) (n : Nat) (c : Option Int) : Wd (lof (LI F n)) (lof (LI G n)) (LI F n).length c = Wd F G n c := ws_ext fun f => by
  rw [LI_len]
  unfold Wd
  refine and_congr_left fun _ => ⟨fun q i hi => ?_, fun q i hi => ?_⟩
  · have := q i hi
    rw [lof_LI hi, lof_LI hi] at this
    exact this
  · rw [lof_LI hi, lof_LI hi]
    exact q i hi
theorem not_shows {rs : List RW} {lw hg : Nat → Int} {n D : Nat} {c : Option Int} {e : Int} (oc : cOk c) (h : IsD n (Wd lw hg n c) D) (he : (D : Int) < e) : ¬ ShowsP rs lw hg n c e := by
  rintro ⟨h1, h2, h3⟩
  rcases h2 with z | ⟨x, hx, ex, el⟩
  · omega
  · have q := rows_sound h1 h3 oc D x hx (by omega)
    rw [ex] at q
    have e1 : Wd (tlF lw hg n c) (thF lw hg n c) n c = Wd lw hg n c := ws_ext fun f => Wd.tight_iff'
    refine q ?_
    show CanW (LI _ n).length D (Wd (lof (LI _ n)) (lof (LI _ n)) (LI _ n).length c)
    rw [wdLI, LI_len, e1]
    exact h.1
end Nu
namespace Nu
open PySem PySem.Spec PyProof.Rows L2
section
variable {P : Program} {w : World} {K : PySem.W.Frag} {mg : Str → Option Value} {base : Heap} {a : Ad} {fd : Fd}
/-- + of two tuples of ints, empty ones too -/
theorem catA_int {K : PySem.W.Frag} {H : Hp} {p q : Addr} {xs ys : List Int} {Q : VK} (hp : H p = some (.tup (xs.map V.int))) (hq : H q = some (.tup (ys.map V.int))) (hz : xs.length + ys.length ≤ sizeLine)
    (h : ∀ r H', Same H H' → H' r = some (.tup ((xs ++ ys).map V.int)) → Q (.ref r) H') : rCatA K (.ref p) (.ref q) H Q := by
  refine ⟨p, q, _, _, rfl, rfl, SqT.of hp, SqT.of hq, by rw [List.length_map, List.length_map]; exact hz, fun e => ?_, fun e1 e2 => ?_, fun e1 e2 r nr => ?_⟩
  · have : xs = [] := List.map_eq_nil_iff.mp e
    subst this
    exact h q H (Same.refl H) hq
  · have : ys = [] := List.map_eq_nil_iff.mp e2
    subst this
    exact h p H (Same.refl H) (by rw [List.append_nil]; exact hp)
  · exact h r _ (same_upd nr) (by rw [upd_same, List.map_append])
def spAreRows : Sp := fun vs H Q _ => ∃ (r : Addr) (ts : List Addr) (rs : List RW), vs = [.ref r] ∧ H r = some (.lst (ts.map V.ref)) ∧ RwsH H ts rs ∧ (∀ x ∈ rs, RwOk x) ∧ ∀ H', Same H H' → Q (.bl true) H'
theorem ok_l_are_rows (T : Txt K mg a fd) : FnOk P w K mg base CX0 1 a.l_are_rows fd.l_are_rows ["_law_rows"] spAreRows := by
  refine T.F_l_are_rows.ok sc_l_are_rows (fun vs H Q E h => ?_) (fun cdv A outer s0 H vs Q E hr h => ?_)
  · obtain ⟨r, ts, rs, rfl, _⟩ := h
    rfl
  · obtain ⟨r, ts, rs, rfl, hr0, hT, hok, k⟩ := h
    have hu := hu_of hr
    refine ⟨_, (pss_cons (ps_if (pt_not (pt_val (pe_callB call_isi (by rfl) T.n_isinstance (by decide +kernel) (pa_cons (pv 0) (pa_cons (pe_bltn (v := .ty "list") (by rfl) T.n_list (by decide +kernel) rfl) pa_nil))))) (pss_one (ps_ret pe_bl)) pss_nil)
    (pss_cons (ps_for PassesOwn.never rfl (pi_list (pv 0)) (pg_name (i := 1) sc_l_are_rows.nd rfl (Or.inl rfl))
      (pss_cons (ps_if (PW.pt (pw_or (pt_not (pt_val (pe_callB call_isi (by rfl) T.n_isinstance (by decide +kernel) (pa_cons (pv 1) (pa_cons (pe_bltn (v := .ty "tuple") (by rfl) T.n_tuple (by decide +kernel) rfl) pa_nil))))) (pw_or1 (pt_cmpR op_ne (pe_callB call_len_seq (by rfl) T.n_len PySem.boot_len (pa_cons (pv 1) pa_nil)) pe_int (nomark _))))) (pss_one (ps_ret pe_bl)) pss_nil)
    (pss_cons (ps_if (PW.pt (pw_or (pt_not (pt_val (pe_callB call_isi (by rfl) T.n_isinstance (by decide +kernel) (pa_cons (pe_ix ix_tup (pv 1) pe_int (fun _ _ => rfl)) (pa_cons (pe_bltn (v := .ty "tuple") (by rfl) T.n_tuple (by decide +kernel) rfl) pa_nil))))) (pw_or1 (pt_not (pt_val (pe_callB call_isi (by rfl) T.n_isinstance (by decide +kernel) (pa_cons (pe_ix ix_tup (pv 1) pe_int (fun _ _ => rfl)) (pa_cons (pe_bltn (v := .ty "tuple") (by rfl) T.n_tuple (by decide +kernel) rfl) pa_nil)))))))) (pss_one (ps_ret pe_bl)) pss_nil)
    (pss_one (ps_for PassesOwn.never rfl (pi_tup (pe_op op_catA (pe_op op_catA (pe_ix ix_tup (pv 1) pe_int (fun _ _ => rfl)) (pe_ix ix_tup (pv 1) pe_int (fun _ _ => rfl))) (pe_tup (pa_cons (pe_ix ix_tup (pv 1) pe_int (fun _ _ => rfl)) pa_nil)))) (pg_name (i := 2) sc_l_are_rows.nd rfl (Or.inl rfl))
      (pss_one (ps_if (PW.pt (pw_or (pt_not (pt_val (pe_callB call_isi (by rfl) T.n_isinstance (by decide +kernel) (pa_cons (pv 2) (pa_cons (pe_bltn (v := .ty "int") (by rfl) T.n_int (by decide +kernel) rfl) pa_nil))))) (pw_or1 (pt_val (pe_callB call_isi (by rfl) T.n_isinstance (by decide +kernel) (pa_cons (pv 2) (pa_cons (pe_bltn (v := .ty "bool") (by rfl) T.n_bool (by decide +kernel) rfl) pa_nil))))))) (pss_one (ps_ret pe_bl)) pss_nil)))))))
    (pss_one (ps_ret pe_bl)))), ?_⟩
    refine ⟨_, rfl, _, _, _, _, _, rfl, .ty "list", .base (.lst hr0), kit_ty (r := true) (by decide +kernel), _, rfl, iteF ?_⟩
    refine next_go ?_
    refine seq_go ?_
    refine ⟨_, rfl, r, rfl, ⟨_, SqL.of hr0⟩, ?_⟩
    refine for_list (K := K) (a := r) (xs := ts.map V.ref) (fun j σ H' => ∃ (v1 v2 : Option V), σ = [some (.ref r), v1, v2] ∧ Same H H')
      ⟨none, none, rfl, Same.refl _⟩ (fun j σ H' _ ⟨_, _, _, s⟩ => SqL.of (s _ _ hr0)) ?_ ?_
    · rintro j y σ H1 hy ⟨v1, v2, rfl, s1⟩
      rw [List.getElem?_map] at hy
      obtain ⟨u, eu, rfl⟩ := Option.map_eq_some_iff.mp hy
      obtain ⟨x, ex, p, q, hu, hp, hq⟩ := (hT.same s1).get eu
      have xm := List.mem_of_getElem? ex
      have ok := hok x xm
      refine gName_go ?_
      refine ⟨_, rfl, _, _, _, _, _, rfl, .ty "tuple", .base (.tup hu), kit_ty (r := true) (by decide +kernel), _, rfl, iteF ?_⟩
      refine ⟨_, rfl, u, _, rfl, .inr (SqT.of hu), rfl, _, rfl, ?_⟩
      rw [show (!decide (V.int (([V.ref p, V.ref q, V.int x.2] : List V).length : Int) = V.int 3)) = false from by rw [decide_eq_true (show V.int (([V.ref p, V.ref q, V.int x.2] : List V).length : Int) = V.int 3 from rfl)]; rfl]
      refine iteF ?_
      refine next_go ?_
      refine ⟨_, rfl, u, _, 0, _, rfl, rfl, SqT.of hu, rfl, _, _, _, _, _, rfl, .ty "tuple", .base (.tup hp), kit_ty (r := true) (by decide +kernel), _, rfl, iteF ?_⟩
      refine ⟨_, rfl, u, _, 1, _, rfl, rfl, SqT.of hu, rfl, _, _, _, _, _, rfl, .ty "tuple", .base (.tup hq), kit_ty (r := true) (by decide +kernel), _, rfl, iteF ?_⟩
      refine next_go ?_
      try dsimp only
      refine ⟨_, rfl, u, _, 0, _, rfl, rfl, SqT.of hu, rfl, _, rfl, u, _, 1, _, rfl, rfl, SqT.of hu, rfl, ?_⟩
      have zl : x.1.1.length + x.1.2.length ≤ 2000 := by have := ok.l1; have := ok.l2; omega
      refine catA_int hp hq (by rw [sizeLine_eq]; omega) fun z1 H2 s2 hz1 => ?_
      refine ⟨_, rfl, u, _, 2, _, rfl, rfl, SqT.of (s2 _ _ hu), rfl, (by show 1 ≤ sizeLine; decide), fun t nt => ?_⟩
      have hz2 := same_upd (o := .tup [V.int x.2]) nt _ _ hz1
      have ht2 : (upd H2 t (.tup [V.int x.2])) t = some (.tup (([x.2] : List Int).map V.int)) := upd_same
      have s3 : Same H2 (upd H2 t (.tup [V.int x.2])) := same_upd nt
      generalize upd H2 t (.tup [V.int x.2]) = H3 at hz2 ht2 s3 ⊢
      refine catA_int hz2 ht2 (by rw [List.length_append, sizeLine_eq]; simp; omega) fun z2 H4 s4 hz4 => ?_
      have s14 : Same H H4 := ((s1.trans s2).trans s3).trans s4
      refine ⟨z2, rfl, ⟨_, SqT.of hz4⟩, ?_⟩
      refine for_tup (K := K) (a := z2) (xs := ((x.1.1 ++ x.1.2) ++ [x.2]).map V.int) (fun j σ H' => ∃ v2 : Option V, σ = [some (.ref r), some (.ref u), v2] ∧ H' = H4)
        ⟨v2, rfl, rfl⟩ (fun j σ H' _ ⟨_, _, e⟩ => by rw [e]; exact SqT.of hz4) ?_ ?_
      · rintro j y σ H5 hy ⟨v2, rfl, rfl⟩
        obtain ⟨m, _, rfl⟩ := map_int_at hy
        refine gName_go ?_
        refine ⟨_, rfl, _, _, _, _, _, rfl, .ty "int", .base (.int m), kit_ty (r := true) (by decide +kernel), _, rfl, iteF ?_⟩
        refine ⟨_, rfl, _, _, _, _, _, rfl, .ty "bool", .base (.int m), kit_ty (r := false) (by decide +kernel), _, rfl, iteF ?_⟩
        refine next_go ?_
        exact ⟨_, rfl, rfl⟩
      · rintro σ H5 ⟨v2, rfl, rfl⟩
        exact ⟨_, _, rfl, s14⟩
    · rintro σ H1 ⟨v1, v2, rfl, s1⟩
      exact k _ s1
end
end Nu
namespace Nu
open PySem PySem.Spec PyProof.Rows L2
theorem ShowsP.le {rs : List RW} {lw hg : Nat → Int} {n : Nat} {c : Option Int} {e e' : Int} (h : ShowsP rs lw hg n c e) (l : e' ≤ e) : ShowsP rs lw hg n c e' :=
  ⟨h.1, h.2.1.elim (fun z => .inl (by omega)) (fun ⟨x, hx, ex, el⟩ => .inr ⟨x, hx, ex, by omega⟩), h.2.2⟩
def toldL (D j : Nat) : List Bool := (List.range j).map fun i => decide (i ≤ D)
theorem told_succ (D j : Nat) : (toldL D (j + 1)).map V.bl = (toldL D j).map V.bl ++ [V.bl (decide (j ≤ D))] := by
  unfold toldL
  rw [List.range_succ, List.map_append, List.map_append]
  rfl
theorem told_rep (D : Nat) : ∀ j : Nat, j ≤ D + 1 → (toldL D j).map V.bl = List.replicate j (V.bl true)
  | 0, _ => rfl
  | j + 1, h => by
    rw [told_succ, told_rep D j (by omega), decide_eq_true (show j ≤ D by omega), List.replicate_succ']
theorem told_all (D : Nat) : (toldL D (D + 2)).map V.bl = (List.replicate (D + 1) [V.bl true]).flatten ++ [V.bl false] := by
  rw [told_succ, told_rep D (D + 1) (Nat.le_refl _), decide_eq_false (show ¬ D + 1 ≤ D by omega), List.flatten_replicate_singleton]
theorem told_len (D j : Nat) : (toldL D j).length = j := by
  unfold toldL
  rw [List.length_map, List.length_range]
section
variable {P : Program} {w : World} {K : PySem.W.Frag} {mg : Str → Option Value} {base : Heap} {a : Ad} {fd : Fd}
def spLaw (K : PySem.W.Frag) : Sp := fun vs H Q _ => ∃ (a : Addr) (ns : List Int), vs = [.ref a] ∧ SqL K H a (ns.map V.int) ∧ ns.length ≤ 63 ∧ ∀ H', Q (.bl true) H'
theorem ok_law (T : Txt K mg a fd) (EX : ExB K a) : FnOk P w K mg base CX0 119 a.law fd.law ["_law_script"] (spLaw K) := by
  have G_l_start := ok_l_start (P := P) (w := w) (base := base) T
  have G_l_box := ok_l_box (P := P) (w := w) (base := base) T
  have G_l_of := ok_l_of (P := P) (w := w) (base := base) T
  have G_l_shown := ok_l_shown (P := P) (w := w) (base := base) T
  have G_l_are_rows := ok_l_are_rows (P := P) (w := w) (base := base) T
  have G_l_same := ok_l_same (P := P) (w := w) (base := base) T 4
  have G_paper := ok_paper (P := P) (w := w) (base := base) T
  have G_least := ok_least (P := P) (w := w) (base := base) T
  have G_shows := ok_shows (P := P) (w := w) (base := base) T EX
  refine T.F_law.ok sc_law (fun vs H Q E h => ?_) (fun cdv A outer s0 H vs Q E hr h => ?_)
  · obtain ⟨a, ns, rfl, _⟩ := h
    rfl
  · obtain ⟨sa, ns, rfl, S0, hns, k⟩ := h
    have hu := hu_of hr
    refine ⟨_, (pss_cons (ps_set (i := 1) sc_law.nd rfl (Or.inl rfl) (pe_call G_l_start (hr.mono (by decide)) (by rfl) T.g_l_start T.F_l_start.kp T.b_l_start .nil pass0 (pa_cons (pv 0) pa_nil)))
    (pss_cons (ps_for PassesOwn.never rfl (pi_range1 (by rfl) T.n_range (pa_cons pe_int pa_nil)) (pg_name (i := 2) sc_law.nd rfl (Or.inl rfl))
      (pss_cons (ps_set (i := 3) sc_law.nd rfl (Or.inr rfl) (pe_call G_l_box (hr.mono (by decide)) (by rfl) T.g_l_box T.F_l_box.kp T.b_l_box .nil pass0 (pa_cons (pv 1) pa_nil)))
    (pss_one (ps_if (pt_cmpR (op_neD hr.units) (pe_call G_l_of (hr.mono (by decide)) (by rfl) T.g_l_of T.F_l_of.kp T.b_l_of .nil pass0 (pa_cons (pe_ix ix_tup (pv 3) pe_int (fun _ _ => rfl)) (pa_cons (pe_ix ix_tup (pv 3) pe_int (fun _ _ => rfl)) (pa_cons (pe_ix ix_tup (pv 3) pe_int (fun _ _ => rfl)) pa_nil)))) (pe_lst pa_nil) (nomark _)) (pss_cons (ps_set (i := 4) sc_law.nd rfl (Or.inl rfl) (pe_ix ix_tup (pe_call G_least (hr.mono (by decide)) (by rfl) T.g_least T.F_least.kp T.b_least .nil pass0 (pa_cons (pv 3) pa_nil)) pe_int (fun _ _ => rfl)))
    (pss_one (ps_for PassesOwn.never rfl (pi_range1 (by rfl) T.n_range (pa_cons pe_int pa_nil)) (pg_name (i := 5) sc_law.nd rfl (Or.inl rfl))
      (pss_cons (ps_set (i := 6) sc_law.nd rfl (Or.inl rfl) (pe_call G_paper (hr.mono (by decide)) (by rfl) T.g_paper T.F_paper.kp T.b_paper .nil pass0 (pa_cons (pv 3) pa_nil)))
    (pss_cons (ps_if (PW.pt (pw_or (pt_not (pt_val (pe_call G_l_are_rows (hr.mono (by decide)) (by rfl) T.g_l_are_rows T.F_l_are_rows.kp T.b_l_are_rows .nil pass0 (pa_cons (pv 6) pa_nil)))) (pw_or1 (pt_not (pt_val (pe_call G_l_shown (hr.mono (by decide)) (by rfl) T.g_l_shown T.F_l_shown.kp T.b_l_shown .nil pass0 (pa_cons (pv 3) (pa_cons (pv 4) (pa_cons (pv 6) pa_nil))))))))) (pss_one (ps_ret pe_bl)) pss_nil)
    (pss_cons (ps_set (i := 7) sc_law.nd rfl (Or.inr rfl) (pe_callTy call_list_of (by rfl) T.n_list (by decide +kernel) (pa_cons (pv 6) pa_nil)))
    (pss_cons (ps_setLc (i := 8) (own := [("_law_many", 9)]) (g := gName 9) (by rfl) sc_law.nd rfl rfl (sw_true rfl rfl rfl (by decide +kernel)) (pi_range1 (by rfl) T.n_range (pa_cons (pe_op op_add (pv 4) pe_int) pa_nil)) (blkOk_by (own := [("_law_many", 9)]) (N := ["_law_script", "_law_state", "_law_turn", "_law_box_here", "_law_depth", "_law_again", "_law_rows", "_law_handed", "_law_told", "_law_many"]) (sc := defScope s_law) (by decide +kernel)) (fun _ _ _ _ _ => pg_name (i := 9) sc_law.nd rfl (Or.inl rfl)) (fun _ _ _ _ _ => pts_nil) (fun _ _ _ _ _ => (pe_call G_shows (hr.mono (by decide)) (by rfl) T.g_shows T.F_shows.kp T.b_shows .nil pass0 (pa_cons (pv 3) (pa_cons (pv 9) (pa_cons (pv 7) pa_nil))))))
    (pss_cons (ps_if (PW.pt (pw_or (pt_not (pt_val (pe_call G_l_same (hr.mono (by decide)) (by rfl) T.g_l_same T.F_l_same.kp T.b_l_same .nil pass0 (pa_cons (pv 8) (pa_cons (pe_op op_cat (pe_op op_rep (pe_lst (pa_cons pe_bl pa_nil)) (pe_op op_add (pv 4) pe_int)) (pe_lst (pa_cons pe_bl pa_nil))) pa_nil))))) (pw_or1 (pt_cmpR (op_neD hr.units) (pv 7) (pv 6) (nomark _))))) (pss_one (ps_ret pe_bl)) pss_nil)
    (pss_one (ps_expr (pe_bm0 PySem.F.plainAttrs_list PySem.F.slot_list_clear PySem.F.type_list_clear mt_clear (pv 6)))))))))))) pss_nil))))
    (pss_one (ps_ret pe_bl)))), ?_⟩
    refine ⟨_, rfl, sa, ns, rfl, S0, fun s H1 ns0 sm1 D1 => ?_⟩
    refine gName_go ?_
    dsimp only
    refine seq_go ?_
    refine ⟨4, rfl, by omega, by omega, ?_⟩
    refine for_range (lo := 0) (n := (4 : Int).toNat) (fun i σ H' => ∃ v2 v3 v4 v5 v6 v7 v8 v9 : Option V, σ = [some (.ref sa), some (.ref s), v2, v3, v4, v5, v6, v7, v8, v9] ∧ Drw K H' s sa ns) ⟨none, none, none, none, none, none, none, none, rfl, D1⟩ ?_ ?_
    · rintro i σ H2 hi ⟨v2, v3, v4, v5, v6, v7, v8, v9, rfl, D2⟩
      refine gName_go ?_
      refine ⟨_, rfl, s, sa, ns, rfl, D2, fun v lw hg n c H3 ib oc k3 D3 B3 => ?_⟩
      obtain ⟨b, p, q, rfl, hb3, hp3, hq3⟩ := id B3
      have n3 : n ≤ 3 := ib.2.2.1
      refine gName_go ?_
      refine next_go ?_
      refine ⟨_, rfl, b, _, 0, _, rfl, rfl, SqT.of hb3, rfl, _, rfl, b, _, 1, _, rfl, rfl, SqT.of hb3, rfl, _, rfl, b, _, 2, _, rfl, rfl, SqT.of hb3, rfl, ?_⟩
      refine ⟨p, q, lw, hg, n, c, rfl, hp3, hq3, n3, ib.2.2.2, fun r ts H4 s4 nr hr4 hT4 => ?_⟩
      have D4 := D3.same s4
      have B4 := B3.same s4
      obtain ⟨ws, ew⟩ : ∃ ws, (wAll lw hg n).filter (okC c) = ws := ⟨_, rfl⟩
      have le : ∀ i, i < n → lw i ≤ hg i := fun i hi => (ib.2.2.2 i hi).2.1
      have nw := no_worlds (c := c) le
      rw [ew] at hT4 nw
      refine ⟨Nat.zero_le _, fun e ne => nil_w (same_upd ne _ _ hr4) (hT4.same (same_upd ne)) upd_same ⟨_, rfl, ?_⟩⟩
      have s5 : Same H4 (upd H4 e (.lst [])) := same_upd ne
      generalize upd H4 e (.lst ([] : List V)) = H5 at s5 ⊢
      have D5 := D4.same s5
      by_cases w0 : ws = []
      · rw [w0]
        refine iteF ?_
        exact ⟨_, _, _, _, _, _, _, _, rfl, D5⟩
      · have we : (!ws.isEmpty) = true := by
          cases ws with
          | nil => exact absurd rfl w0
          | cons x r => rfl
        rw [we]
        refine iteT ?_
        have nb : ¬ badC (sumF lw n) (sumF hg n) c := fun z => w0 (nw.mpr z)
        have B5 := B4.same s5
        -- the depth
        refine ⟨_, rfl, .ref b, lw, hg, n, c, rfl, B5, bok_small ib oc, ib, nb, fun r18 pl x18 H6 s6 hr18 hP18 so18 isD => ⟨r18, _, 0, _, rfl, rfl, SqT.of hr18, rfl, ?_⟩⟩
        have D6 := D5.same s6
        have B6 := B5.same s6
        have X : Bx (tlF lw hg n c) (thF lw hg n c) n c := ⟨n3, fun i hi => by
          have := ib.2.2.2 i hi
          have := tl_ge (lw := lw) (hg := hg) (n := n) (c := c) i
          have := th_le (lw := lw) (hg := hg) (n := n) (c := c) i
          omega, Tg.of le nb, oc⟩
        have eW : Wd (tlF lw hg n c) (thF lw hg n c) n c = Wd lw hg n c := ws_ext fun f => Wd.tight_iff'
        have d21 : pl.deep ≤ 21 := deep21 X (by rw [eW]; exact isD)
        obtain ⟨D, eD⟩ : ∃ D, pl.deep = D := ⟨_, rfl⟩
        rw [eD] at isD d21 ⊢
        refine gName_go ?_
        try dsimp only
        refine ⟨2, rfl, by omega, by omega, ?_⟩
        refine for_range (lo := 0) (n := (2 : Int).toNat) (fun j σ H' => ∃ (v5 v6 v7 v8 v9 : Option V), σ = [some (.ref sa), some (.ref s), some (.int (0 + (i : Int))), some (.ref b), some (.int ((D : Nat) : Int)), v5, v6, v7, v8, v9] ∧ Drw K H' s sa ns ∧ BoxH H' (.ref b) lw hg n n c)
          ⟨v5, v6, v7, v8, v9, rfl, D6, B6⟩ ?_ ?_
        · rintro j σ H7 hj ⟨v5, v6, v7, v8, v9, rfl, D7, B7⟩
          refine gName_go ?_
          refine ⟨_, rfl, .ref b, lw, hg, n, c, rfl, B7, bok_small ib oc, ib, nb, fun r9 ts9 rs9 D' H9 s9 nr9 hr9 hR9 hl9 hk9 isD' sh9 => ?_⟩
          have eD' := isD'.uniq isD
          subst eD'
          have D9 := D7.same s9
          have B9 := B7.same s9
          refine gName_go ?_
          try dsimp only
          refine seq_go ?_
          refine ⟨_, rfl, r9, ts9, rs9, rfl, hr9, hR9, hk9, fun H10 s10 => ⟨_, rfl, iteF ?_⟩⟩
          have hr10 := s10 _ _ hr9
          have hR10 := hR9.same s10
          refine ⟨_, rfl, _, rfl, _, rfl, .ref b, r9, lw, hg, n, c, ((D' : Nat) : Int), ts9, rs9, rfl, B9.same s10, oc, ib, nb, hr10, hR10, by omega, hk9, fun _ H11 s11 => ⟨_, rfl, iteF ?_⟩, fun z => absurd sh9 z⟩
          refine next_go ?_
          refine seq_go ?_
          have s911 := s10.trans s11
          have hr11 := s911 _ _ hr9
          have hR11 := hR9.same s911
          refine ⟨_, rfl, r9, _, rfl, .inl (SqL.of hr11), fun h nh => ?_⟩
          have s12 : Same H11 (upd H11 h (.lst (ts9.map V.ref))) := same_upd nh
          have hh12 : (upd H11 h (.lst (ts9.map V.ref))) h = some (.lst (ts9.map V.ref)) := upd_same
          have s912 := s911.trans s12
          generalize upd H11 h (.lst (ts9.map V.ref)) = H12 at s12 hh12 s912 ⊢
          have hr12 := s912 _ _ hr9
          have hR12 := hR9.same s912
          have B12 := B9.same s912
          refine gName_go ?_
          try dsimp only
          refine seq_go ?_
          refine ⟨_, rfl, _, _, rfl, rfl, _, rfl, by omega, by omega, fun p np => ?_⟩
          refine lc_range (lo := 0) (n := (((D' : Nat) : Int) + 2).toNat) (fun j H' => Same H12 H' ∧ H' p = some (.lst ((toldL D' j).map V.bl)))
            ⟨same_upd np, upd_same⟩ ?_ ?_
          · rintro j H13 hj ⟨s13, hp13⟩
            refine ⟨wipe1 _ _ _, ?_⟩
            dsimp only [tYes]
            rw [if_pos rfl]
            have hh13 := s13 _ _ hh12
            have hR13 := hR12.same s13
            have B13 := B12.same s13
            have app : ∀ H4, Same H13 H4 → ∃ acc, H4 p = some (HO.lst acc) ∧ acc.length < sizeLine ∧ Same H12 (upd H4 p (HO.lst (acc ++ [V.bl (decide (j ≤ D'))]))) ∧ upd H4 p (HO.lst (acc ++ [V.bl (decide (j ≤ D'))])) p = some (HO.lst (List.map V.bl (toldL D' (j + 1)))) := fun H4 s4 =>
              ⟨_, s4 _ _ hp13, by rw [List.length_map, told_len, sizeLine_eq]; omega, fun c o z => by
                rw [upd_ne (fun q => by rw [q, np] at z; cases z)]
                exact s4 _ _ (s13 _ _ z), by rw [upd_same, told_succ]⟩
            refine ⟨_, rfl, _, rfl, _, rfl, .ref b, h, lw, hg, n, c, (0 + (j : Int)), ts9, rs9, rfl, B13, bok_small ib oc, ib, nb, hh13, hR13, by omega, hk9, fun sh H4 s4 => ?_, fun sh H4 s4 => ?_⟩
            · have e : j ≤ D' := by
                by_cases q : j ≤ D'
                · exact q
                · exact absurd sh (not_shows oc isD (by omega))
              have := app H4 s4
              rw [decide_eq_true e] at this
              exact this
            · have e : ¬ j ≤ D' := fun q => sh (sh9.le (by omega))
              have := app H4 s4
              rw [decide_eq_false e] at this
              exact this
          · rintro H13 ⟨s13, hp13⟩
            refine gName_go ?_
            try dsimp only
            refine seq_go ?_
            rw [show (((D' : Nat) : Int) + 2).toNat = D' + 2 by omega] at hp13
            have hD9 : (upd H13 p (.lst ((toldL D' (D' + 2)).map V.bl))) = upd H13 p (.lst ((toldL D' (D' + 2)).map V.bl)) := rfl
            clear hD9
            refine ⟨_, rfl, (by show 1 ≤ sizeLine; decide), fun l1 n1 => ⟨_, rfl, _, _, rfl, rfl, l1, _, _, rfl, rfl, upd_same, by omega, by omega, ?_, fun l2 n2 => ⟨(by show 1 ≤ sizeLine; decide), fun l3 n3 => ?_⟩⟩⟩
            · show 1 * (((D' : Nat) : Int) + 1).toNat ≤ sizeLine
              rw [sizeLine_eq]
              omega
            · have sA : Same H13 (upd H13 l1 (.lst [V.bl true])) := same_upd n1
              have sB := sA.trans (same_upd (o := .lst (List.replicate (((D' : Nat) : Int) + 1).toNat [V.bl true]).flatten) n2)
              have sC := sB.trans (same_upd (o := .lst [V.bl false]) n3)
              have hl2 := same_upd (o := .lst [V.bl false]) n3 l2 _ upd_same
              have hl3 : (upd (upd (upd H13 l1 (.lst [V.bl true])) l2 (.lst (List.replicate (((D' : Nat) : Int) + 1).toNat [V.bl true]).flatten)) l3 (.lst [V.bl false])) l3 = some (.lst [V.bl false]) := upd_same
              generalize upd (upd (upd H13 l1 (.lst [V.bl true])) l2 (.lst (List.replicate (((D' : Nat) : Int) + 1).toNat [V.bl true]).flatten)) l3 (.lst [V.bl false]) = H14 at sC hl2 hl3 ⊢
              have eN : (((D' : Nat) : Int) + 1).toNat = D' + 1 := by omega
              rw [eN] at hl2
              refine ⟨l2, l3, _, _, rfl, rfl, hl2, hl3, ?_, fun l4 n4 => ?_⟩
              · rw [List.flatten_replicate_singleton, List.length_replicate, sizeLine_eq]
                show D' + 1 + 1 ≤ _
                omega
              · have hl4 : (upd H14 l4 (.lst ((List.replicate (D' + 1) [V.bl true]).flatten ++ [V.bl false]))) l4 = some (.lst ((toldL D' (D' + 2)).map V.bl)) := by rw [upd_same, told_all]
                have sD := sC.trans (same_upd (o := .lst ((List.replicate (D' + 1) [V.bl true]).flatten ++ [V.bl false])) n4)
                generalize upd H14 l4 (.lst ((List.replicate (D' + 1) [V.bl true]).flatten ++ [V.bl false])) = H15 at hl4 sD ⊢
                refine ⟨.ref p, .ref l4, rfl, .inr ⟨p, l4, _, _, true, rfl, rfl, sD _ _ hp13, hl4, rfl, by rw [List.length_map, told_len]; omega, fun i u v e1 e2 => .inl ?_⟩, fun H16 s16 => ⟨_, rfl, ?_⟩⟩
                · rw [e1] at e2
                  cases e2
                  rw [List.getElem?_map] at e1
                  obtain ⟨z, _, rfl⟩ := Option.map_eq_some_iff.mp e1
                  exact ⟨rfl, rfl⟩
                · refine iteF ?_
                  have s1216 := (s13.trans sD).trans s16
                  refine ⟨_, rfl, _, rfl, ne_same (s1216 _ _ hh12) (s1216 _ _ hr12) (hR12.same s1216) ⟨_, rfl, iteF ?_⟩⟩
                  refine next_go ?_
                  have hr16 := s1216 _ _ hr12
                  refine ⟨_, rfl, .inl ⟨rfl, _, SqL.of hr16⟩, r9, _, rfl, rfl, hr16, ?_⟩
                  have s716 : Same H7 H16 := (s9.trans s912).trans s1216
                  have s7u : Same H7 (upd H16 r9 (.lst [])) := fun c o z => by
                    rw [upd_ne (fun q => by rw [q, nr9] at z; cases z)]
                    exact s716 _ _ z
                  exact ⟨_, _, _, _, _, rfl, D7.over (Keep.same s716) (D7.same s716) nr9, B7.same s7u⟩
        · rintro σ H7 ⟨v5, v6, v7, v8, v9, rfl, D7, B7⟩
          exact ⟨_, _, _, _, _, _, _, _, rfl, D7⟩
    · rintro σ H2 ⟨v2, v3, v4, v5, v6, v7, v8, v9, rfl, D2⟩
      exact k _
end
end Nu
namespace Nu
open PySem PySem.Spec PyProof.Rows L2
theorem all_mk {l : PySem.W.OpenLaw} {w : World} {K : PySem.W.Frag} {h : Heap} {mg : Str → Option Value} {fa : Addr} (X : K.In h) (G : h.Ns mainGlobals mg) (hfa : mg "law" = some (.ref fa))
    {C x_GapError x_NoWorld x_NoBox : Addr}
    {f_narrowed : Addr} {od_narrowed an_narrowed : Option Addr} {sl_narrowed : Array (Option Value)} {oc_narrowed kV_narrowed dc_narrowed pm_narrowed cd_narrowed ct_narrowed : Value}
    {f_check_total : Addr} {od_check_total an_check_total : Option Addr} {sl_check_total : Array (Option Value)} {oc_check_total kV_check_total dc_check_total pm_check_total cd_check_total ct_check_total : Value}
    {f_tight : Addr} {od_tight an_tight : Option Addr} {sl_tight : Array (Option Value)} {oc_tight kV_tight dc_tight pm_tight cd_tight ct_tight : Value}
    {f_looks_in : Addr} {od_looks_in an_looks_in : Option Addr} {sl_looks_in : Array (Option Value)} {oc_looks_in kV_looks_in dc_looks_in pm_looks_in cd_looks_in ct_looks_in : Value}
    {f_parted : Addr} {od_parted an_parted : Option Addr} {sl_parted : Array (Option Value)} {oc_parted kV_parted dc_parted pm_parted cd_parted ct_parted : Value}
    {f_tightened : Addr} {od_tightened an_tightened : Option Addr} {sl_tightened : Array (Option Value)} {oc_tightened kV_tightened dc_tightened pm_tightened cd_tightened ct_tightened : Value}
    {f_check_box : Addr} {od_check_box an_check_box : Option Addr} {sl_check_box : Array (Option Value)} {oc_check_box kV_check_box dc_check_box pm_check_box cd_check_box ct_check_box : Value}
    {f_Depths_init : Addr} {od_Depths_init an_Depths_init : Option Addr} {sl_Depths_init : Array (Option Value)} {oc_Depths_init kV_Depths_init dc_Depths_init pm_Depths_init cd_Depths_init ct_Depths_init : Value}
    {f_Depths_depth_of : Addr} {od_Depths_depth_of an_Depths_depth_of : Option Addr} {sl_Depths_depth_of : Array (Option Value)} {oc_Depths_depth_of kV_Depths_depth_of dc_Depths_depth_of pm_Depths_depth_of cd_Depths_depth_of ct_Depths_depth_of : Value}
    {f_Depths_best_look : Addr} {od_Depths_best_look an_Depths_best_look : Option Addr} {sl_Depths_best_look : Array (Option Value)} {oc_Depths_best_look kV_Depths_best_look dc_Depths_best_look pm_Depths_best_look cd_Depths_best_look ct_Depths_best_look : Value}
    {f_Depths__worked_out : Addr} {od_Depths__worked_out an_Depths__worked_out : Option Addr} {sl_Depths__worked_out : Array (Option Value)} {oc_Depths__worked_out kV_Depths__worked_out dc_Depths__worked_out pm_Depths__worked_out cd_Depths__worked_out ct_Depths__worked_out : Value}
    {f_Depths__rated_looks : Addr} {od_Depths__rated_looks an_Depths__rated_looks : Option Addr} {sl_Depths__rated_looks : Array (Option Value)} {oc_Depths__rated_looks kV_Depths__rated_looks dc_Depths__rated_looks pm_Depths__rated_looks cd_Depths__rated_looks ct_Depths__rated_looks : Value}
    {f_Depths__left_behind : Addr} {od_Depths__left_behind an_Depths__left_behind : Option Addr} {sl_Depths__left_behind : Array (Option Value)} {oc_Depths__left_behind kV_Depths__left_behind dc_Depths__left_behind pm_Depths__left_behind cd_Depths__left_behind ct_Depths__left_behind : Value}
    {f_shape : Addr} {od_shape an_shape : Option Addr} {sl_shape : Array (Option Value)} {oc_shape kV_shape dc_shape pm_shape cd_shape ct_shape : Value}
    {f_paper : Addr} {od_paper an_paper : Option Addr} {sl_paper : Array (Option Value)} {oc_paper kV_paper dc_paper pm_paper cd_paper ct_paper : Value}
    {f_shows : Addr} {od_shows an_shows : Option Addr} {sl_shows : Array (Option Value)} {oc_shows kV_shows dc_shows pm_shows cd_shows ct_shows : Value}
    {f_claimed_behind : Addr} {od_claimed_behind an_claimed_behind : Option Addr} {sl_claimed_behind : Array (Option Value)} {oc_claimed_behind kV_claimed_behind dc_claimed_behind pm_claimed_behind cd_claimed_behind ct_claimed_behind : Value}
    {f_has_worlds : Addr} {od_has_worlds an_has_worlds : Option Addr} {sl_has_worlds : Array (Option Value)} {oc_has_worlds kV_has_worlds dc_has_worlds pm_has_worlds cd_has_worlds ct_has_worlds : Value}
    {f_greatest_claims : Addr} {od_greatest_claims an_greatest_claims : Option Addr} {sl_greatest_claims : Array (Option Value)} {oc_greatest_claims kV_greatest_claims dc_greatest_claims pm_greatest_claims cd_greatest_claims ct_greatest_claims : Value}
    {f_is_claimed : Addr} {od_is_claimed an_is_claimed : Option Addr} {sl_is_claimed : Array (Option Value)} {oc_is_claimed kV_is_claimed dc_is_claimed pm_is_claimed cd_is_claimed ct_is_claimed : Value}
    {f_is_shown : Addr} {od_is_shown an_is_shown : Option Addr} {sl_is_shown : Array (Option Value)} {oc_is_shown kV_is_shown dc_is_shown pm_is_shown cd_is_shown ct_is_shown : Value}
    {f_leaves : Addr} {od_leaves an_leaves : Option Addr} {sl_leaves : Array (Option Value)} {oc_leaves kV_leaves dc_leaves pm_leaves cd_leaves ct_leaves : Value}
    {f_least : Addr} {od_least an_least : Option Addr} {sl_least : Array (Option Value)} {oc_least kV_least dc_least pm_least cd_least ct_least : Value}
    {f_plan : Addr} {od_plan an_plan : Option Addr} {sl_plan : Array (Option Value)} {oc_plan kV_plan dc_plan pm_plan cd_plan ct_plan : Value}
    {f_l_start : Addr} {od_l_start an_l_start : Option Addr} {sl_l_start : Array (Option Value)} {oc_l_start kV_l_start dc_l_start pm_l_start cd_l_start ct_l_start : Value}
    {f_l_drawn : Addr} {od_l_drawn an_l_drawn : Option Addr} {sl_l_drawn : Array (Option Value)} {oc_l_drawn kV_l_drawn dc_l_drawn pm_l_drawn cd_l_drawn ct_l_drawn : Value}
    {f_l_same : Addr} {od_l_same an_l_same : Option Addr} {sl_l_same : Array (Option Value)} {oc_l_same kV_l_same dc_l_same pm_l_same cd_l_same ct_l_same : Value}
    {f_l_box : Addr} {od_l_box an_l_box : Option Addr} {sl_l_box : Array (Option Value)} {oc_l_box kV_l_box dc_l_box pm_l_box cd_l_box ct_l_box : Value}
    {f_l_of : Addr} {od_l_of an_l_of : Option Addr} {sl_l_of : Array (Option Value)} {oc_l_of kV_l_of dc_l_of pm_l_of cd_l_of ct_l_of : Value}
    {f_l_longer : Addr} {od_l_longer an_l_longer : Option Addr} {sl_l_longer : Array (Option Value)} {oc_l_longer kV_l_longer dc_l_longer pm_l_longer cd_l_longer ct_l_longer : Value}
    {f_l_narrow : Addr} {od_l_narrow an_l_narrow : Option Addr} {sl_l_narrow : Array (Option Value)} {oc_l_narrow kV_l_narrow dc_l_narrow pm_l_narrow cd_l_narrow ct_l_narrow : Value}
    {f_l_is_box : Addr} {od_l_is_box an_l_is_box : Option Addr} {sl_l_is_box : Array (Option Value)} {oc_l_is_box kV_l_is_box dc_l_is_box pm_l_is_box cd_l_is_box ct_l_is_box : Value}
    {f_l_claimed : Addr} {od_l_claimed an_l_claimed : Option Addr} {sl_l_claimed : Array (Option Value)} {oc_l_claimed kV_l_claimed dc_l_claimed pm_l_claimed cd_l_claimed ct_l_claimed : Value}
    {f_l_stands : Addr} {od_l_stands an_l_stands : Option Addr} {sl_l_stands : Array (Option Value)} {oc_l_stands kV_l_stands dc_l_stands pm_l_stands cd_l_stands ct_l_stands : Value}
    {f_l_shown : Addr} {od_l_shown an_l_shown : Option Addr} {sl_l_shown : Array (Option Value)} {oc_l_shown kV_l_shown dc_l_shown pm_l_shown cd_l_shown ct_l_shown : Value}
    {f_l_are_rows : Addr} {od_l_are_rows an_l_are_rows : Option Addr} {sl_l_are_rows : Array (Option Value)} {oc_l_are_rows kV_l_are_rows dc_l_are_rows pm_l_are_rows cd_l_are_rows ct_l_are_rows : Value}
    {f_law : Addr} {od_law an_law : Option Addr} {sl_law : Array (Option Value)} {oc_law kV_law dc_law pm_law cd_law ct_law : Value}
    {t_MOST_PLACES : _}
    {t_GREATEST_HIGH : _}
    (hC : PySem.W.nsIn K mainGlobals "Depths" = some (some (.ref C)))
    (hn_ValueError : PySem.W.nsIn K mainGlobals "ValueError" = some none)
    (hn_all : PySem.W.nsIn K mainGlobals "all" = some none)
    (hn_any : PySem.W.nsIn K mainGlobals "any" = some none)
    (hn_bool : PySem.W.nsIn K mainGlobals "bool" = some none)
    (hn_int : PySem.W.nsIn K mainGlobals "int" = some none)
    (hn_isinstance : PySem.W.nsIn K mainGlobals "isinstance" = some none)
    (hn_len : PySem.W.nsIn K mainGlobals "len" = some none)
    (hn_list : PySem.W.nsIn K mainGlobals "list" = some none)
    (hn_max : PySem.W.nsIn K mainGlobals "max" = some none)
    (hn_min : PySem.W.nsIn K mainGlobals "min" = some none)
    (hn_range : PySem.W.nsIn K mainGlobals "range" = some none)
    (hn_sorted : PySem.W.nsIn K mainGlobals "sorted" = some none)
    (hn_str : PySem.W.nsIn K mainGlobals "str" = some none)
    (hn_sum : PySem.W.nsIn K mainGlobals "sum" = some none)
    (hn_tuple : PySem.W.nsIn K mainGlobals "tuple" = some none)
    (hn_zip : PySem.W.nsIn K mainGlobals "zip" = some none)
    (hc_MOST_PLACES : PySem.W.nsIn K mainGlobals "MOST_PLACES" = some (some (.int 3 t_MOST_PLACES)))
    (hc_GREATEST_HIGH : PySem.W.nsIn K mainGlobals "GREATEST_HIGH" = some (some (.int 7 t_GREATEST_HIGH)))
    (ha_narrowed : PySem.W.nsIn K mainGlobals "narrowed" = some (some (.ref f_narrowed)))
    (hl_narrowed : K.lookup f_narrowed = some ⟨oc_narrowed, od_narrowed, .func (PySem.W.fnOf "narrowed" "narrowed" (defArgs s_narrowed) (defBody s_narrowed) (defScope s_narrowed) .none kV_narrowed dc_narrowed pm_narrowed an_narrowed cd_narrowed ct_narrowed), sl_narrowed⟩)
    (hd_narrowed : PySem.W.codeIn K cd_narrowed "narrowed" = true)
    (hk_narrowed : PySem.W.keepIn K (.ref f_narrowed) = true)
    (ha_check_total : PySem.W.nsIn K mainGlobals "_check_total" = some (some (.ref f_check_total)))
    (hl_check_total : K.lookup f_check_total = some ⟨oc_check_total, od_check_total, .func (PySem.W.fnOf "_check_total" "_check_total" (defArgs s_check_total) (defBody s_check_total) (defScope s_check_total) .none kV_check_total dc_check_total pm_check_total an_check_total cd_check_total ct_check_total), sl_check_total⟩)
    (hd_check_total : PySem.W.codeIn K cd_check_total "_check_total" = true)
    (hk_check_total : PySem.W.keepIn K (.ref f_check_total) = true)
    (ha_tight : PySem.W.nsIn K mainGlobals "tight" = some (some (.ref f_tight)))
    (hl_tight : K.lookup f_tight = some ⟨oc_tight, od_tight, .func (PySem.W.fnOf "tight" "tight" (defArgs s_tight) (defBody s_tight) (defScope s_tight) .none kV_tight dc_tight pm_tight an_tight cd_tight ct_tight), sl_tight⟩)
    (hd_tight : PySem.W.codeIn K cd_tight "tight" = true)
    (hk_tight : PySem.W.keepIn K (.ref f_tight) = true)
    (ha_looks_in : PySem.W.nsIn K mainGlobals "looks_in" = some (some (.ref f_looks_in)))
    (hl_looks_in : K.lookup f_looks_in = some ⟨oc_looks_in, od_looks_in, .func (PySem.W.fnOf "looks_in" "looks_in" (defArgs s_looks_in) (defBody s_looks_in) (defScope s_looks_in) .none kV_looks_in dc_looks_in pm_looks_in an_looks_in cd_looks_in ct_looks_in), sl_looks_in⟩)
    (hd_looks_in : PySem.W.codeIn K cd_looks_in "looks_in" = true)
    (hk_looks_in : PySem.W.keepIn K (.ref f_looks_in) = true)
    (ha_parted : PySem.W.nsIn K mainGlobals "parted" = some (some (.ref f_parted)))
    (hl_parted : K.lookup f_parted = some ⟨oc_parted, od_parted, .func (PySem.W.fnOf "parted" "parted" (defArgs s_parted) (defBody s_parted) (defScope s_parted) .none kV_parted dc_parted pm_parted an_parted cd_parted ct_parted), sl_parted⟩)
    (hd_parted : PySem.W.codeIn K cd_parted "parted" = true)
    (hk_parted : PySem.W.keepIn K (.ref f_parted) = true)
    (ha_tightened : PySem.W.nsIn K mainGlobals "_tightened" = some (some (.ref f_tightened)))
    (hl_tightened : K.lookup f_tightened = some ⟨oc_tightened, od_tightened, .func (PySem.W.fnOf "_tightened" "_tightened" (defArgs s_tightened) (defBody s_tightened) (defScope s_tightened) .none kV_tightened dc_tightened pm_tightened an_tightened cd_tightened ct_tightened), sl_tightened⟩)
    (hd_tightened : PySem.W.codeIn K cd_tightened "_tightened" = true)
    (hk_tightened : PySem.W.keepIn K (.ref f_tightened) = true)
    (ha_check_box : PySem.W.nsIn K mainGlobals "_check_box" = some (some (.ref f_check_box)))
    (hl_check_box : K.lookup f_check_box = some ⟨oc_check_box, od_check_box, .func (PySem.W.fnOf "_check_box" "_check_box" (defArgs s_check_box) (defBody s_check_box) (defScope s_check_box) .none kV_check_box dc_check_box pm_check_box an_check_box cd_check_box ct_check_box), sl_check_box⟩)
    (hd_check_box : PySem.W.codeIn K cd_check_box "_check_box" = true)
    (hk_check_box : PySem.W.keepIn K (.ref f_check_box) = true)
    (ha_Depths_init : PySem.W.findIn K (.ref C) "__init__" = some (some (.ref f_Depths_init)))
    (hi_Depths_init : PySem.W.isFn K (.ref f_Depths_init) = true)
    (hl_Depths_init : K.lookup f_Depths_init = some ⟨oc_Depths_init, od_Depths_init, .func (PySem.W.fnOf "__init__" "Depths.__init__" (defArgs s_Depths_init) (defBody s_Depths_init) (defScope s_Depths_init) .none kV_Depths_init dc_Depths_init pm_Depths_init an_Depths_init cd_Depths_init ct_Depths_init), sl_Depths_init⟩)
    (hd_Depths_init : PySem.W.codeIn K cd_Depths_init "Depths.__init__" = true)
    (hk_Depths_init : PySem.W.keepIn K (.ref f_Depths_init) = true)
    (ha_Depths_depth_of : PySem.W.findIn K (.ref C) "depth_of" = some (some (.ref f_Depths_depth_of)))
    (hi_Depths_depth_of : PySem.W.isFn K (.ref f_Depths_depth_of) = true)
    (hl_Depths_depth_of : K.lookup f_Depths_depth_of = some ⟨oc_Depths_depth_of, od_Depths_depth_of, .func (PySem.W.fnOf "depth_of" "Depths.depth_of" (defArgs s_Depths_depth_of) (defBody s_Depths_depth_of) (defScope s_Depths_depth_of) .none kV_Depths_depth_of dc_Depths_depth_of pm_Depths_depth_of an_Depths_depth_of cd_Depths_depth_of ct_Depths_depth_of), sl_Depths_depth_of⟩)
    (hd_Depths_depth_of : PySem.W.codeIn K cd_Depths_depth_of "Depths.depth_of" = true)
    (hk_Depths_depth_of : PySem.W.keepIn K (.ref f_Depths_depth_of) = true)
    (ha_Depths_best_look : PySem.W.findIn K (.ref C) "best_look" = some (some (.ref f_Depths_best_look)))
    (hi_Depths_best_look : PySem.W.isFn K (.ref f_Depths_best_look) = true)
    (hl_Depths_best_look : K.lookup f_Depths_best_look = some ⟨oc_Depths_best_look, od_Depths_best_look, .func (PySem.W.fnOf "best_look" "Depths.best_look" (defArgs s_Depths_best_look) (defBody s_Depths_best_look) (defScope s_Depths_best_look) .none kV_Depths_best_look dc_Depths_best_look pm_Depths_best_look an_Depths_best_look cd_Depths_best_look ct_Depths_best_look), sl_Depths_best_look⟩)
    (hd_Depths_best_look : PySem.W.codeIn K cd_Depths_best_look "Depths.best_look" = true)
    (hk_Depths_best_look : PySem.W.keepIn K (.ref f_Depths_best_look) = true)
    (ha_Depths__worked_out : PySem.W.findIn K (.ref C) "_worked_out" = some (some (.ref f_Depths__worked_out)))
    (hi_Depths__worked_out : PySem.W.isFn K (.ref f_Depths__worked_out) = true)
    (hl_Depths__worked_out : K.lookup f_Depths__worked_out = some ⟨oc_Depths__worked_out, od_Depths__worked_out, .func (PySem.W.fnOf "_worked_out" "Depths._worked_out" (defArgs s_Depths__worked_out) (defBody s_Depths__worked_out) (defScope s_Depths__worked_out) .none kV_Depths__worked_out dc_Depths__worked_out pm_Depths__worked_out an_Depths__worked_out cd_Depths__worked_out ct_Depths__worked_out), sl_Depths__worked_out⟩)
    (hd_Depths__worked_out : PySem.W.codeIn K cd_Depths__worked_out "Depths._worked_out" = true)
    (hk_Depths__worked_out : PySem.W.keepIn K (.ref f_Depths__worked_out) = true)
    (ha_Depths__rated_looks : PySem.W.findIn K (.ref C) "_rated_looks" = some (some (.ref f_Depths__rated_looks)))
    (hi_Depths__rated_looks : PySem.W.isFn K (.ref f_Depths__rated_looks) = true)
    (hl_Depths__rated_looks : K.lookup f_Depths__rated_looks = some ⟨oc_Depths__rated_looks, od_Depths__rated_looks, .func (PySem.W.fnOf "_rated_looks" "Depths._rated_looks" (defArgs s_Depths__rated_looks) (defBody s_Depths__rated_looks) (defScope s_Depths__rated_looks) .none kV_Depths__rated_looks dc_Depths__rated_looks pm_Depths__rated_looks an_Depths__rated_looks cd_Depths__rated_looks ct_Depths__rated_looks), sl_Depths__rated_looks⟩)
    (hd_Depths__rated_looks : PySem.W.codeIn K cd_Depths__rated_looks "Depths._rated_looks" = true)
    (hk_Depths__rated_looks : PySem.W.keepIn K (.ref f_Depths__rated_looks) = true)
    (ha_Depths__left_behind : PySem.W.findIn K (.ref C) "_left_behind" = some (some (.ref f_Depths__left_behind)))
    (hi_Depths__left_behind : PySem.W.isFn K (.ref f_Depths__left_behind) = true)
    (hl_Depths__left_behind : K.lookup f_Depths__left_behind = some ⟨oc_Depths__left_behind, od_Depths__left_behind, .func (PySem.W.fnOf "_left_behind" "Depths._left_behind" (defArgs s_Depths__left_behind) (defBody s_Depths__left_behind) (defScope s_Depths__left_behind) .none kV_Depths__left_behind dc_Depths__left_behind pm_Depths__left_behind an_Depths__left_behind cd_Depths__left_behind ct_Depths__left_behind), sl_Depths__left_behind⟩)
    (hd_Depths__left_behind : PySem.W.codeIn K cd_Depths__left_behind "Depths._left_behind" = true)
    (hk_Depths__left_behind : PySem.W.keepIn K (.ref f_Depths__left_behind) = true)
    (ha_shape : PySem.W.nsIn K mainGlobals "_shape" = some (some (.ref f_shape)))
    (hl_shape : K.lookup f_shape = some ⟨oc_shape, od_shape, .func (PySem.W.fnOf "_shape" "_shape" (defArgs s_shape) (defBody s_shape) (defScope s_shape) .none kV_shape dc_shape pm_shape an_shape cd_shape ct_shape), sl_shape⟩)
    (hd_shape : PySem.W.codeIn K cd_shape "_shape" = true)
    (hk_shape : PySem.W.keepIn K (.ref f_shape) = true)
    (ha_paper : PySem.W.nsIn K mainGlobals "paper" = some (some (.ref f_paper)))
    (hl_paper : K.lookup f_paper = some ⟨oc_paper, od_paper, .func (PySem.W.fnOf "paper" "paper" (defArgs s_paper) (defBody s_paper) (defScope s_paper) .none kV_paper dc_paper pm_paper an_paper cd_paper ct_paper), sl_paper⟩)
    (hd_paper : PySem.W.codeIn K cd_paper "paper" = true)
    (hk_paper : PySem.W.keepIn K (.ref f_paper) = true)
    (ha_shows : PySem.W.nsIn K mainGlobals "shows" = some (some (.ref f_shows)))
    (hl_shows : K.lookup f_shows = some ⟨oc_shows, od_shows, .func (PySem.W.fnOf "shows" "shows" (defArgs s_shows) (defBody s_shows) (defScope s_shows) .none kV_shows dc_shows pm_shows an_shows cd_shows ct_shows), sl_shows⟩)
    (hd_shows : PySem.W.codeIn K cd_shows "shows" = true)
    (hk_shows : PySem.W.keepIn K (.ref f_shows) = true)
    (ha_claimed_behind : PySem.W.nsIn K mainGlobals "_claimed_behind" = some (some (.ref f_claimed_behind)))
    (hl_claimed_behind : K.lookup f_claimed_behind = some ⟨oc_claimed_behind, od_claimed_behind, .func (PySem.W.fnOf "_claimed_behind" "_claimed_behind" (defArgs s_claimed_behind) (defBody s_claimed_behind) (defScope s_claimed_behind) .none kV_claimed_behind dc_claimed_behind pm_claimed_behind an_claimed_behind cd_claimed_behind ct_claimed_behind), sl_claimed_behind⟩)
    (hd_claimed_behind : PySem.W.codeIn K cd_claimed_behind "_claimed_behind" = true)
    (hk_claimed_behind : PySem.W.keepIn K (.ref f_claimed_behind) = true)
    (ha_has_worlds : PySem.W.nsIn K mainGlobals "_has_worlds" = some (some (.ref f_has_worlds)))
    (hl_has_worlds : K.lookup f_has_worlds = some ⟨oc_has_worlds, od_has_worlds, .func (PySem.W.fnOf "_has_worlds" "_has_worlds" (defArgs s_has_worlds) (defBody s_has_worlds) (defScope s_has_worlds) .none kV_has_worlds dc_has_worlds pm_has_worlds an_has_worlds cd_has_worlds ct_has_worlds), sl_has_worlds⟩)
    (hd_has_worlds : PySem.W.codeIn K cd_has_worlds "_has_worlds" = true)
    (hk_has_worlds : PySem.W.keepIn K (.ref f_has_worlds) = true)
    (ha_greatest_claims : PySem.W.nsIn K mainGlobals "_greatest_claims" = some (some (.ref f_greatest_claims)))
    (hl_greatest_claims : K.lookup f_greatest_claims = some ⟨oc_greatest_claims, od_greatest_claims, .func (PySem.W.fnOf "_greatest_claims" "_greatest_claims" (defArgs s_greatest_claims) (defBody s_greatest_claims) (defScope s_greatest_claims) .none kV_greatest_claims dc_greatest_claims pm_greatest_claims an_greatest_claims cd_greatest_claims ct_greatest_claims), sl_greatest_claims⟩)
    (hd_greatest_claims : PySem.W.codeIn K cd_greatest_claims "_greatest_claims" = true)
    (hk_greatest_claims : PySem.W.keepIn K (.ref f_greatest_claims) = true)
    (ha_is_claimed : PySem.W.nsIn K mainGlobals "_is_claimed" = some (some (.ref f_is_claimed)))
    (hl_is_claimed : K.lookup f_is_claimed = some ⟨oc_is_claimed, od_is_claimed, .func (PySem.W.fnOf "_is_claimed" "_is_claimed" (defArgs s_is_claimed) (defBody s_is_claimed) (defScope s_is_claimed) .none kV_is_claimed dc_is_claimed pm_is_claimed an_is_claimed cd_is_claimed ct_is_claimed), sl_is_claimed⟩)
    (hd_is_claimed : PySem.W.codeIn K cd_is_claimed "_is_claimed" = true)
    (hk_is_claimed : PySem.W.keepIn K (.ref f_is_claimed) = true)
    (ha_is_shown : PySem.W.nsIn K mainGlobals "_is_shown" = some (some (.ref f_is_shown)))
    (hl_is_shown : K.lookup f_is_shown = some ⟨oc_is_shown, od_is_shown, .func (PySem.W.fnOf "_is_shown" "_is_shown" (defArgs s_is_shown) (defBody s_is_shown) (defScope s_is_shown) .none kV_is_shown dc_is_shown pm_is_shown an_is_shown cd_is_shown ct_is_shown), sl_is_shown⟩)
    (hd_is_shown : PySem.W.codeIn K cd_is_shown "_is_shown" = true)
    (hk_is_shown : PySem.W.keepIn K (.ref f_is_shown) = true)
    (ha_leaves : PySem.W.nsIn K mainGlobals "_leaves" = some (some (.ref f_leaves)))
    (hl_leaves : K.lookup f_leaves = some ⟨oc_leaves, od_leaves, .func (PySem.W.fnOf "_leaves" "_leaves" (defArgs s_leaves) (defBody s_leaves) (defScope s_leaves) .none kV_leaves dc_leaves pm_leaves an_leaves cd_leaves ct_leaves), sl_leaves⟩)
    (hd_leaves : PySem.W.codeIn K cd_leaves "_leaves" = true)
    (hk_leaves : PySem.W.keepIn K (.ref f_leaves) = true)
    (ha_least : PySem.W.nsIn K mainGlobals "least" = some (some (.ref f_least)))
    (hl_least : K.lookup f_least = some ⟨oc_least, od_least, .func (PySem.W.fnOf "least" "least" (defArgs s_least) (defBody s_least) (defScope s_least) .none kV_least dc_least pm_least an_least cd_least ct_least), sl_least⟩)
    (hd_least : PySem.W.codeIn K cd_least "least" = true)
    (hk_least : PySem.W.keepIn K (.ref f_least) = true)
    (ha_plan : PySem.W.nsIn K mainGlobals "_plan" = some (some (.ref f_plan)))
    (hl_plan : K.lookup f_plan = some ⟨oc_plan, od_plan, .func (PySem.W.fnOf "_plan" "_plan" (defArgs s_plan) (defBody s_plan) (defScope s_plan) .none kV_plan dc_plan pm_plan an_plan cd_plan ct_plan), sl_plan⟩)
    (hd_plan : PySem.W.codeIn K cd_plan "_plan" = true)
    (hk_plan : PySem.W.keepIn K (.ref f_plan) = true)
    (ha_l_start : PySem.W.nsIn K mainGlobals "_law_start" = some (some (.ref f_l_start)))
    (hl_l_start : K.lookup f_l_start = some ⟨oc_l_start, od_l_start, .func (PySem.W.fnOf "_law_start" "_law_start" (defArgs s_l_start) (defBody s_l_start) (defScope s_l_start) .none kV_l_start dc_l_start pm_l_start an_l_start cd_l_start ct_l_start), sl_l_start⟩)
    (hd_l_start : PySem.W.codeIn K cd_l_start "_law_start" = true)
    (hk_l_start : PySem.W.keepIn K (.ref f_l_start) = true)
    (ha_l_drawn : PySem.W.nsIn K mainGlobals "_law_drawn" = some (some (.ref f_l_drawn)))
    (hl_l_drawn : K.lookup f_l_drawn = some ⟨oc_l_drawn, od_l_drawn, .func (PySem.W.fnOf "_law_drawn" "_law_drawn" (defArgs s_l_drawn) (defBody s_l_drawn) (defScope s_l_drawn) .none kV_l_drawn dc_l_drawn pm_l_drawn an_l_drawn cd_l_drawn ct_l_drawn), sl_l_drawn⟩)
    (hd_l_drawn : PySem.W.codeIn K cd_l_drawn "_law_drawn" = true)
    (hk_l_drawn : PySem.W.keepIn K (.ref f_l_drawn) = true)
    (ha_l_same : PySem.W.nsIn K mainGlobals "_law_same" = some (some (.ref f_l_same)))
    (hl_l_same : K.lookup f_l_same = some ⟨oc_l_same, od_l_same, .func (PySem.W.fnOf "_law_same" "_law_same" (defArgs s_l_same) (defBody s_l_same) (defScope s_l_same) .none kV_l_same dc_l_same pm_l_same an_l_same cd_l_same ct_l_same), sl_l_same⟩)
    (hd_l_same : PySem.W.codeIn K cd_l_same "_law_same" = true)
    (hk_l_same : PySem.W.keepIn K (.ref f_l_same) = true)
    (ha_l_box : PySem.W.nsIn K mainGlobals "_law_box" = some (some (.ref f_l_box)))
    (hl_l_box : K.lookup f_l_box = some ⟨oc_l_box, od_l_box, .func (PySem.W.fnOf "_law_box" "_law_box" (defArgs s_l_box) (defBody s_l_box) (defScope s_l_box) .none kV_l_box dc_l_box pm_l_box an_l_box cd_l_box ct_l_box), sl_l_box⟩)
    (hd_l_box : PySem.W.codeIn K cd_l_box "_law_box" = true)
    (hk_l_box : PySem.W.keepIn K (.ref f_l_box) = true)
    (ha_l_of : PySem.W.nsIn K mainGlobals "_law_of" = some (some (.ref f_l_of)))
    (hl_l_of : K.lookup f_l_of = some ⟨oc_l_of, od_l_of, .func (PySem.W.fnOf "_law_of" "_law_of" (defArgs s_l_of) (defBody s_l_of) (defScope s_l_of) .none kV_l_of dc_l_of pm_l_of an_l_of cd_l_of ct_l_of), sl_l_of⟩)
    (hd_l_of : PySem.W.codeIn K cd_l_of "_law_of" = true)
    (hk_l_of : PySem.W.keepIn K (.ref f_l_of) = true)
    (ha_l_longer : PySem.W.nsIn K mainGlobals "_law_longer" = some (some (.ref f_l_longer)))
    (hl_l_longer : K.lookup f_l_longer = some ⟨oc_l_longer, od_l_longer, .func (PySem.W.fnOf "_law_longer" "_law_longer" (defArgs s_l_longer) (defBody s_l_longer) (defScope s_l_longer) .none kV_l_longer dc_l_longer pm_l_longer an_l_longer cd_l_longer ct_l_longer), sl_l_longer⟩)
    (hd_l_longer : PySem.W.codeIn K cd_l_longer "_law_longer" = true)
    (hk_l_longer : PySem.W.keepIn K (.ref f_l_longer) = true)
    (ha_l_narrow : PySem.W.nsIn K mainGlobals "_law_narrow" = some (some (.ref f_l_narrow)))
    (hl_l_narrow : K.lookup f_l_narrow = some ⟨oc_l_narrow, od_l_narrow, .func (PySem.W.fnOf "_law_narrow" "_law_narrow" (defArgs s_l_narrow) (defBody s_l_narrow) (defScope s_l_narrow) .none kV_l_narrow dc_l_narrow pm_l_narrow an_l_narrow cd_l_narrow ct_l_narrow), sl_l_narrow⟩)
    (hd_l_narrow : PySem.W.codeIn K cd_l_narrow "_law_narrow" = true)
    (hk_l_narrow : PySem.W.keepIn K (.ref f_l_narrow) = true)
    (ha_l_is_box : PySem.W.nsIn K mainGlobals "_law_is_box" = some (some (.ref f_l_is_box)))
    (hl_l_is_box : K.lookup f_l_is_box = some ⟨oc_l_is_box, od_l_is_box, .func (PySem.W.fnOf "_law_is_box" "_law_is_box" (defArgs s_l_is_box) (defBody s_l_is_box) (defScope s_l_is_box) .none kV_l_is_box dc_l_is_box pm_l_is_box an_l_is_box cd_l_is_box ct_l_is_box), sl_l_is_box⟩)
    (hd_l_is_box : PySem.W.codeIn K cd_l_is_box "_law_is_box" = true)
    (hk_l_is_box : PySem.W.keepIn K (.ref f_l_is_box) = true)
    (ha_l_claimed : PySem.W.nsIn K mainGlobals "_law_claimed" = some (some (.ref f_l_claimed)))
    (hl_l_claimed : K.lookup f_l_claimed = some ⟨oc_l_claimed, od_l_claimed, .func (PySem.W.fnOf "_law_claimed" "_law_claimed" (defArgs s_l_claimed) (defBody s_l_claimed) (defScope s_l_claimed) .none kV_l_claimed dc_l_claimed pm_l_claimed an_l_claimed cd_l_claimed ct_l_claimed), sl_l_claimed⟩)
    (hd_l_claimed : PySem.W.codeIn K cd_l_claimed "_law_claimed" = true)
    (hk_l_claimed : PySem.W.keepIn K (.ref f_l_claimed) = true)
    (ha_l_stands : PySem.W.nsIn K mainGlobals "_law_stands" = some (some (.ref f_l_stands)))
    (hl_l_stands : K.lookup f_l_stands = some ⟨oc_l_stands, od_l_stands, .func (PySem.W.fnOf "_law_stands" "_law_stands" (defArgs s_l_stands) (defBody s_l_stands) (defScope s_l_stands) .none kV_l_stands dc_l_stands pm_l_stands an_l_stands cd_l_stands ct_l_stands), sl_l_stands⟩)
    (hd_l_stands : PySem.W.codeIn K cd_l_stands "_law_stands" = true)
    (hk_l_stands : PySem.W.keepIn K (.ref f_l_stands) = true)
    (ha_l_shown : PySem.W.nsIn K mainGlobals "_law_shown" = some (some (.ref f_l_shown)))
    (hl_l_shown : K.lookup f_l_shown = some ⟨oc_l_shown, od_l_shown, .func (PySem.W.fnOf "_law_shown" "_law_shown" (defArgs s_l_shown) (defBody s_l_shown) (defScope s_l_shown) .none kV_l_shown dc_l_shown pm_l_shown an_l_shown cd_l_shown ct_l_shown), sl_l_shown⟩)
    (hd_l_shown : PySem.W.codeIn K cd_l_shown "_law_shown" = true)
    (hk_l_shown : PySem.W.keepIn K (.ref f_l_shown) = true)
    (ha_l_are_rows : PySem.W.nsIn K mainGlobals "_law_are_rows" = some (some (.ref f_l_are_rows)))
    (hl_l_are_rows : K.lookup f_l_are_rows = some ⟨oc_l_are_rows, od_l_are_rows, .func (PySem.W.fnOf "_law_are_rows" "_law_are_rows" (defArgs s_l_are_rows) (defBody s_l_are_rows) (defScope s_l_are_rows) .none kV_l_are_rows dc_l_are_rows pm_l_are_rows an_l_are_rows cd_l_are_rows ct_l_are_rows), sl_l_are_rows⟩)
    (hd_l_are_rows : PySem.W.codeIn K cd_l_are_rows "_law_are_rows" = true)
    (hk_l_are_rows : PySem.W.keepIn K (.ref f_l_are_rows) = true)
    (ha_law : PySem.W.nsIn K mainGlobals "law" = some (some (.ref f_law)))
    (hl_law : K.lookup f_law = some ⟨oc_law, od_law, .func (PySem.W.fnOf "law" "law" (defArgs s_law) (defBody s_law) (defScope s_law) .none kV_law dc_law pm_law an_law cd_law ct_law), sl_law⟩)
    (hd_law : PySem.W.codeIn K cd_law "law" = true)
    (hk_law : PySem.W.keepIn K (.ref f_law) = true)
    (pg : PySem.W.plainGet K C Str.empty = true)
    (hd : PySem.W.hasDictIn K C = true)
    (po : PySem.W.plainOver K C = true)
    (sa : PySem.W.findIn K (.ref C) "__setattr__" = some (some (.builtin "object.__setattr__")))
    (mk : PySem.W.makesIn K C = true)
    (kc : PySem.W.keepIn K (.ref C) = true)
    (hna_known : PySem.W.findIn K (.ref C) "_known" = some none)
    (xg_GapError : PySem.W.nsIn K mainGlobals "GapError" = some (some (.ref x_GapError)))
    (xx_GapError : PySem.W.excIn K x_GapError [.type "ValueError", .type "Exception", .type "BaseException", .type "object"] "ValueError.__new__" = true)
    (xk_GapError : PySem.W.keepIn K (.ref x_GapError) = true)
    (xb_GapError : PySem.W.subIn K (.ref x_GapError) (.type "BaseException") = some true)
    (xt_GapError : PySem.W.typeIn K (.ref x_GapError) = some (.type "type"))
    (xg_NoWorld : PySem.W.nsIn K mainGlobals "NoWorld" = some (some (.ref x_NoWorld)))
    (xx_NoWorld : PySem.W.excIn K x_NoWorld [.type "ValueError", .type "Exception", .type "BaseException", .type "object"] "ValueError.__new__" = true)
    (xk_NoWorld : PySem.W.keepIn K (.ref x_NoWorld) = true)
    (xb_NoWorld : PySem.W.subIn K (.ref x_NoWorld) (.type "BaseException") = some true)
    (xt_NoWorld : PySem.W.typeIn K (.ref x_NoWorld) = some (.type "type"))
    (xg_NoBox : PySem.W.nsIn K mainGlobals "NoBox" = some (some (.ref x_NoBox)))
    (xx_NoBox : PySem.W.excIn K x_NoBox [.type "ValueError", .type "Exception", .type "BaseException", .type "object"] "ValueError.__new__" = true)
    (xk_NoBox : PySem.W.keepIn K (.ref x_NoBox) = true)
    (xb_NoBox : PySem.W.subIn K (.ref x_NoBox) (.type "BaseException") = some true)
    (xt_NoBox : PySem.W.typeIn K (.ref x_NoBox) = some (.type "type"))
    (exbb : PySem.W.exmOne K (.ref x_NoBox) (.ref x_NoBox) = some true)
    (exbw : PySem.W.exmOne K (.ref x_NoBox) (.ref x_NoWorld) = some false)
    (exwb : PySem.W.exmOne K (.ref x_NoWorld) (.ref x_NoBox) = some false)
    (exww : PySem.W.exmOne K (.ref x_NoWorld) (.ref x_NoWorld) = some true)
    : ∃ fd : FuncData, (∀ (s : Shared) (v : Value), BindsTo s fd ⟨[v], []⟩ [("_law_script", v)]) ∧ ∀ base : Heap, K.In base → base.Ns mainGlobals mg → FnOk l.prog w K mg base CX0 119 fa fd ["_law_script"] (spLaw K) := by
  have e := hfa.symm.trans (PySem.W.mg_of X G ha_law)
  cases e
  have F_narrowed := fun_mk (st := s_narrowed) hl_narrowed hd_narrowed hk_narrowed
  have F_check_total := fun_mk (st := s_check_total) hl_check_total hd_check_total hk_check_total
  have F_tight := fun_mk (st := s_tight) hl_tight hd_tight hk_tight
  have F_looks_in := fun_mk (st := s_looks_in) hl_looks_in hd_looks_in hk_looks_in
  have F_parted := fun_mk (st := s_parted) hl_parted hd_parted hk_parted
  have F_tightened := fun_mk (st := s_tightened) hl_tightened hd_tightened hk_tightened
  have F_check_box := fun_mk (st := s_check_box) hl_check_box hd_check_box hk_check_box
  have F_Depths_init := fun_mk (st := s_Depths_init) hl_Depths_init hd_Depths_init hk_Depths_init
  have F_Depths_depth_of := fun_mk (st := s_Depths_depth_of) hl_Depths_depth_of hd_Depths_depth_of hk_Depths_depth_of
  have F_Depths_best_look := fun_mk (st := s_Depths_best_look) hl_Depths_best_look hd_Depths_best_look hk_Depths_best_look
  have F_Depths__worked_out := fun_mk (st := s_Depths__worked_out) hl_Depths__worked_out hd_Depths__worked_out hk_Depths__worked_out
  have F_Depths__rated_looks := fun_mk (st := s_Depths__rated_looks) hl_Depths__rated_looks hd_Depths__rated_looks hk_Depths__rated_looks
  have F_Depths__left_behind := fun_mk (st := s_Depths__left_behind) hl_Depths__left_behind hd_Depths__left_behind hk_Depths__left_behind
  have F_shape := fun_mk (st := s_shape) hl_shape hd_shape hk_shape
  have F_paper := fun_mk (st := s_paper) hl_paper hd_paper hk_paper
  have F_shows := fun_mk (st := s_shows) hl_shows hd_shows hk_shows
  have F_claimed_behind := fun_mk (st := s_claimed_behind) hl_claimed_behind hd_claimed_behind hk_claimed_behind
  have F_has_worlds := fun_mk (st := s_has_worlds) hl_has_worlds hd_has_worlds hk_has_worlds
  have F_greatest_claims := fun_mk (st := s_greatest_claims) hl_greatest_claims hd_greatest_claims hk_greatest_claims
  have F_is_claimed := fun_mk (st := s_is_claimed) hl_is_claimed hd_is_claimed hk_is_claimed
  have F_is_shown := fun_mk (st := s_is_shown) hl_is_shown hd_is_shown hk_is_shown
  have F_leaves := fun_mk (st := s_leaves) hl_leaves hd_leaves hk_leaves
  have F_least := fun_mk (st := s_least) hl_least hd_least hk_least
  have F_plan := fun_mk (st := s_plan) hl_plan hd_plan hk_plan
  have F_l_start := fun_mk (st := s_l_start) hl_l_start hd_l_start hk_l_start
  have F_l_drawn := fun_mk (st := s_l_drawn) hl_l_drawn hd_l_drawn hk_l_drawn
  have F_l_same := fun_mk (st := s_l_same) hl_l_same hd_l_same hk_l_same
  have F_l_box := fun_mk (st := s_l_box) hl_l_box hd_l_box hk_l_box
  have F_l_of := fun_mk (st := s_l_of) hl_l_of hd_l_of hk_l_of
  have F_l_longer := fun_mk (st := s_l_longer) hl_l_longer hd_l_longer hk_l_longer
  have F_l_narrow := fun_mk (st := s_l_narrow) hl_l_narrow hd_l_narrow hk_l_narrow
  have F_l_is_box := fun_mk (st := s_l_is_box) hl_l_is_box hd_l_is_box hk_l_is_box
  have F_l_claimed := fun_mk (st := s_l_claimed) hl_l_claimed hd_l_claimed hk_l_claimed
  have F_l_stands := fun_mk (st := s_l_stands) hl_l_stands hd_l_stands hk_l_stands
  have F_l_shown := fun_mk (st := s_l_shown) hl_l_shown hd_l_shown hk_l_shown
  have F_l_are_rows := fun_mk (st := s_l_are_rows) hl_l_are_rows hd_l_are_rows hk_l_are_rows
  have F_law := fun_mk (st := s_law) hl_law hd_law hk_law
  let ad : Ad := { C := C, GapError := x_GapError, NoWorld := x_NoWorld, NoBox := x_NoBox, narrowed := f_narrowed, check_total := f_check_total, tight := f_tight, looks_in := f_looks_in, parted := f_parted, tightened := f_tightened, check_box := f_check_box, Depths_init := f_Depths_init, Depths_depth_of := f_Depths_depth_of, Depths_best_look := f_Depths_best_look, Depths__worked_out := f_Depths__worked_out, Depths__rated_looks := f_Depths__rated_looks, Depths__left_behind := f_Depths__left_behind, shape := f_shape, paper := f_paper, shows := f_shows, claimed_behind := f_claimed_behind, has_worlds := f_has_worlds, greatest_claims := f_greatest_claims, is_claimed := f_is_claimed, is_shown := f_is_shown, leaves := f_leaves, least := f_least, plan := f_plan, l_start := f_l_start, l_drawn := f_l_drawn, l_same := f_l_same, l_box := f_l_box, l_of := f_l_of, l_longer := f_l_longer, l_narrow := f_l_narrow, l_is_box := f_l_is_box, l_claimed := f_l_claimed, l_stands := f_l_stands, l_shown := f_l_shown, l_are_rows := f_l_are_rows, law := fa }
  let fd : Fd := { narrowed := PySem.W.fnOf "narrowed" "narrowed" (defArgs s_narrowed) (defBody s_narrowed) (defScope s_narrowed) .none kV_narrowed dc_narrowed pm_narrowed an_narrowed cd_narrowed ct_narrowed, check_total := PySem.W.fnOf "_check_total" "_check_total" (defArgs s_check_total) (defBody s_check_total) (defScope s_check_total) .none kV_check_total dc_check_total pm_check_total an_check_total cd_check_total ct_check_total, tight := PySem.W.fnOf "tight" "tight" (defArgs s_tight) (defBody s_tight) (defScope s_tight) .none kV_tight dc_tight pm_tight an_tight cd_tight ct_tight, looks_in := PySem.W.fnOf "looks_in" "looks_in" (defArgs s_looks_in) (defBody s_looks_in) (defScope s_looks_in) .none kV_looks_in dc_looks_in pm_looks_in an_looks_in cd_looks_in ct_looks_in, parted := PySem.W.fnOf "parted" "parted" (defArgs s_parted) (defBody s_parted) (defScope s_parted) .none kV_parted dc_parted pm_parted an_parted cd_parted ct_parted, tightened := PySem.W.fnOf "_tightened" "_tightened" (defArgs s_tightened) (defBody s_tightened) (defScope s_tightened) .none kV_tightened dc_tightened pm_tightened an_tightened cd_tightened ct_tightened, check_box := PySem.W.fnOf "_check_box" "_check_box" (defArgs s_check_box) (defBody s_check_box) (defScope s_check_box) .none kV_check_box dc_check_box pm_check_box an_check_box cd_check_box ct_check_box, Depths_init := PySem.W.fnOf "__init__" "Depths.__init__" (defArgs s_Depths_init) (defBody s_Depths_init) (defScope s_Depths_init) .none kV_Depths_init dc_Depths_init pm_Depths_init an_Depths_init cd_Depths_init ct_Depths_init, Depths_depth_of := PySem.W.fnOf "depth_of" "Depths.depth_of" (defArgs s_Depths_depth_of) (defBody s_Depths_depth_of) (defScope s_Depths_depth_of) .none kV_Depths_depth_of dc_Depths_depth_of pm_Depths_depth_of an_Depths_depth_of cd_Depths_depth_of ct_Depths_depth_of, Depths_best_look := PySem.W.fnOf "best_look" "Depths.best_look" (defArgs s_Depths_best_look) (defBody s_Depths_best_look) (defScope s_Depths_best_look) .none kV_Depths_best_look dc_Depths_best_look pm_Depths_best_look an_Depths_best_look cd_Depths_best_look ct_Depths_best_look, Depths__worked_out := PySem.W.fnOf "_worked_out" "Depths._worked_out" (defArgs s_Depths__worked_out) (defBody s_Depths__worked_out) (defScope s_Depths__worked_out) .none kV_Depths__worked_out dc_Depths__worked_out pm_Depths__worked_out an_Depths__worked_out cd_Depths__worked_out ct_Depths__worked_out, Depths__rated_looks := PySem.W.fnOf "_rated_looks" "Depths._rated_looks" (defArgs s_Depths__rated_looks) (defBody s_Depths__rated_looks) (defScope s_Depths__rated_looks) .none kV_Depths__rated_looks dc_Depths__rated_looks pm_Depths__rated_looks an_Depths__rated_looks cd_Depths__rated_looks ct_Depths__rated_looks, Depths__left_behind := PySem.W.fnOf "_left_behind" "Depths._left_behind" (defArgs s_Depths__left_behind) (defBody s_Depths__left_behind) (defScope s_Depths__left_behind) .none kV_Depths__left_behind dc_Depths__left_behind pm_Depths__left_behind an_Depths__left_behind cd_Depths__left_behind ct_Depths__left_behind, shape := PySem.W.fnOf "_shape" "_shape" (defArgs s_shape) (defBody s_shape) (defScope s_shape) .none kV_shape dc_shape pm_shape an_shape cd_shape ct_shape, paper := PySem.W.fnOf "paper" "paper" (defArgs s_paper) (defBody s_paper) (defScope s_paper) .none kV_paper dc_paper pm_paper an_paper cd_paper ct_paper, shows := PySem.W.fnOf "shows" "shows" (defArgs s_shows) (defBody s_shows) (defScope s_shows) .none kV_shows dc_shows pm_shows an_shows cd_shows ct_shows, claimed_behind := PySem.W.fnOf "_claimed_behind" "_claimed_behind" (defArgs s_claimed_behind) (defBody s_claimed_behind) (defScope s_claimed_behind) .none kV_claimed_behind dc_claimed_behind pm_claimed_behind an_claimed_behind cd_claimed_behind ct_claimed_behind, has_worlds := PySem.W.fnOf "_has_worlds" "_has_worlds" (defArgs s_has_worlds) (defBody s_has_worlds) (defScope s_has_worlds) .none kV_has_worlds dc_has_worlds pm_has_worlds an_has_worlds cd_has_worlds ct_has_worlds, greatest_claims := PySem.W.fnOf "_greatest_claims" "_greatest_claims" (defArgs s_greatest_claims) (defBody s_greatest_claims) (defScope s_greatest_claims) .none kV_greatest_claims dc_greatest_claims pm_greatest_claims an_greatest_claims cd_greatest_claims ct_greatest_claims, is_claimed := PySem.W.fnOf "_is_claimed" "_is_claimed" (defArgs s_is_claimed) (defBody s_is_claimed) (defScope s_is_claimed) .none kV_is_claimed dc_is_claimed pm_is_claimed an_is_claimed cd_is_claimed ct_is_claimed, is_shown := PySem.W.fnOf "_is_shown" "_is_shown" (defArgs s_is_shown) (defBody s_is_shown) (defScope s_is_shown) .none kV_is_shown dc_is_shown pm_is_shown an_is_shown cd_is_shown ct_is_shown, leaves := PySem.W.fnOf "_leaves" "_leaves" (defArgs s_leaves) (defBody s_leaves) (defScope s_leaves) .none kV_leaves dc_leaves pm_leaves an_leaves cd_leaves ct_leaves, least := PySem.W.fnOf "least" "least" (defArgs s_least) (defBody s_least) (defScope s_least) .none kV_least dc_least pm_least an_least cd_least ct_least, plan := PySem.W.fnOf "_plan" "_plan" (defArgs s_plan) (defBody s_plan) (defScope s_plan) .none kV_plan dc_plan pm_plan an_plan cd_plan ct_plan, l_start := PySem.W.fnOf "_law_start" "_law_start" (defArgs s_l_start) (defBody s_l_start) (defScope s_l_start) .none kV_l_start dc_l_start pm_l_start an_l_start cd_l_start ct_l_start, l_drawn := PySem.W.fnOf "_law_drawn" "_law_drawn" (defArgs s_l_drawn) (defBody s_l_drawn) (defScope s_l_drawn) .none kV_l_drawn dc_l_drawn pm_l_drawn an_l_drawn cd_l_drawn ct_l_drawn, l_same := PySem.W.fnOf "_law_same" "_law_same" (defArgs s_l_same) (defBody s_l_same) (defScope s_l_same) .none kV_l_same dc_l_same pm_l_same an_l_same cd_l_same ct_l_same, l_box := PySem.W.fnOf "_law_box" "_law_box" (defArgs s_l_box) (defBody s_l_box) (defScope s_l_box) .none kV_l_box dc_l_box pm_l_box an_l_box cd_l_box ct_l_box, l_of := PySem.W.fnOf "_law_of" "_law_of" (defArgs s_l_of) (defBody s_l_of) (defScope s_l_of) .none kV_l_of dc_l_of pm_l_of an_l_of cd_l_of ct_l_of, l_longer := PySem.W.fnOf "_law_longer" "_law_longer" (defArgs s_l_longer) (defBody s_l_longer) (defScope s_l_longer) .none kV_l_longer dc_l_longer pm_l_longer an_l_longer cd_l_longer ct_l_longer, l_narrow := PySem.W.fnOf "_law_narrow" "_law_narrow" (defArgs s_l_narrow) (defBody s_l_narrow) (defScope s_l_narrow) .none kV_l_narrow dc_l_narrow pm_l_narrow an_l_narrow cd_l_narrow ct_l_narrow, l_is_box := PySem.W.fnOf "_law_is_box" "_law_is_box" (defArgs s_l_is_box) (defBody s_l_is_box) (defScope s_l_is_box) .none kV_l_is_box dc_l_is_box pm_l_is_box an_l_is_box cd_l_is_box ct_l_is_box, l_claimed := PySem.W.fnOf "_law_claimed" "_law_claimed" (defArgs s_l_claimed) (defBody s_l_claimed) (defScope s_l_claimed) .none kV_l_claimed dc_l_claimed pm_l_claimed an_l_claimed cd_l_claimed ct_l_claimed, l_stands := PySem.W.fnOf "_law_stands" "_law_stands" (defArgs s_l_stands) (defBody s_l_stands) (defScope s_l_stands) .none kV_l_stands dc_l_stands pm_l_stands an_l_stands cd_l_stands ct_l_stands, l_shown := PySem.W.fnOf "_law_shown" "_law_shown" (defArgs s_l_shown) (defBody s_l_shown) (defScope s_l_shown) .none kV_l_shown dc_l_shown pm_l_shown an_l_shown cd_l_shown ct_l_shown, l_are_rows := PySem.W.fnOf "_law_are_rows" "_law_are_rows" (defArgs s_l_are_rows) (defBody s_l_are_rows) (defScope s_l_are_rows) .none kV_l_are_rows dc_l_are_rows pm_l_are_rows an_l_are_rows cd_l_are_rows ct_l_are_rows, law := PySem.W.fnOf "law" "law" (defArgs s_law) (defBody s_law) (defScope s_law) .none kV_law dc_law pm_law an_law cd_law ct_law }
  have T : Txt K mg ad fd := {
    cl := ⟨pg, hd, po, sa⟩,
    na_known := hna_known,
    g_Depths := PySem.W.mg_of X G hC,
    mkO := ⟨mk, ha_Depths_init, hi_Depths_init, kc⟩,
    n_ValueError := PySem.W.mg_none_of X G hn_ValueError,
    n_all := PySem.W.mg_none_of X G hn_all,
    n_any := PySem.W.mg_none_of X G hn_any,
    n_bool := PySem.W.mg_none_of X G hn_bool,
    n_int := PySem.W.mg_none_of X G hn_int,
    n_isinstance := PySem.W.mg_none_of X G hn_isinstance,
    n_len := PySem.W.mg_none_of X G hn_len,
    n_list := PySem.W.mg_none_of X G hn_list,
    n_max := PySem.W.mg_none_of X G hn_max,
    n_min := PySem.W.mg_none_of X G hn_min,
    n_range := PySem.W.mg_none_of X G hn_range,
    n_sorted := PySem.W.mg_none_of X G hn_sorted,
    n_str := PySem.W.mg_none_of X G hn_str,
    n_sum := PySem.W.mg_none_of X G hn_sum,
    n_tuple := PySem.W.mg_none_of X G hn_tuple,
    n_zip := PySem.W.mg_none_of X G hn_zip,
    g_MOST_PLACES := ⟨_, PySem.W.mg_of X G hc_MOST_PLACES⟩,
    g_GREATEST_HIGH := ⟨_, PySem.W.mg_of X G hc_GREATEST_HIGH⟩,
    x_GapError := ⟨xx_GapError, PySem.W.mg_of X G xg_GapError, xk_GapError, xb_GapError, xt_GapError⟩,
    x_NoWorld := ⟨xx_NoWorld, PySem.W.mg_of X G xg_NoWorld, xk_NoWorld, xb_NoWorld, xt_NoWorld⟩,
    x_NoBox := ⟨xx_NoBox, PySem.W.mg_of X G xg_NoBox, xk_NoBox, xb_NoBox, xt_NoBox⟩,
    F_narrowed := F_narrowed,
    b_narrowed := F_narrowed.binds (ps := ["lows", "highs", "total"]) fun _ _ _ _ _ _ us hl => match us, hl with | [_, _, _], _ => rfl,
    g_narrowed := PySem.W.mg_of X G ha_narrowed,
    F_check_total := F_check_total,
    b_check_total := F_check_total.binds (ps := ["lows", "highs", "total"]) fun _ _ _ _ _ _ us hl => match us, hl with | [_, _, _], _ => rfl,
    g_check_total := PySem.W.mg_of X G ha_check_total,
    F_tight := F_tight,
    b_tight := F_tight.binds (ps := ["box"]) fun _ _ _ _ _ _ us hl => match us, hl with | [_], _ => rfl,
    g_tight := PySem.W.mg_of X G ha_tight,
    F_looks_in := F_looks_in,
    b_looks_in := F_looks_in.binds (ps := ["box"]) fun _ _ _ _ _ _ us hl => match us, hl with | [_], _ => rfl,
    g_looks_in := PySem.W.mg_of X G ha_looks_in,
    F_parted := F_parted,
    b_parted := F_parted.binds (ps := ["box", "look"]) fun _ _ _ _ _ _ us hl => match us, hl with | [_, _], _ => rfl,
    g_parted := PySem.W.mg_of X G ha_parted,
    F_tightened := F_tightened,
    b_tightened := F_tightened.binds (ps := ["lows", "highs", "total"]) fun _ _ _ _ _ _ us hl => match us, hl with | [_, _, _], _ => rfl,
    g_tightened := PySem.W.mg_of X G ha_tightened,
    F_check_box := F_check_box,
    b_check_box := F_check_box.binds (ps := ["box"]) fun _ _ _ _ _ _ us hl => match us, hl with | [_], _ => rfl,
    g_check_box := PySem.W.mg_of X G ha_check_box,
    F_Depths_init := F_Depths_init,
    b_Depths_init := F_Depths_init.binds (ps := ["self"]) fun _ _ _ _ _ _ us hl => match us, hl with | [_], _ => rfl,
    F_Depths_depth_of := F_Depths_depth_of,
    b_Depths_depth_of := F_Depths_depth_of.binds (ps := ["self", "box"]) fun _ _ _ _ _ _ us hl => match us, hl with | [_, _], _ => rfl,
    m_Depths_depth_of := ⟨ha_Depths_depth_of, hi_Depths_depth_of, hk_Depths_depth_of⟩,
    F_Depths_best_look := F_Depths_best_look,
    b_Depths_best_look := F_Depths_best_look.binds (ps := ["self", "box"]) fun _ _ _ _ _ _ us hl => match us, hl with | [_, _], _ => rfl,
    m_Depths_best_look := ⟨ha_Depths_best_look, hi_Depths_best_look, hk_Depths_best_look⟩,
    F_Depths__worked_out := F_Depths__worked_out,
    b_Depths__worked_out := F_Depths__worked_out.binds (ps := ["self", "box"]) fun _ _ _ _ _ _ us hl => match us, hl with | [_, _], _ => rfl,
    m_Depths__worked_out := ⟨ha_Depths__worked_out, hi_Depths__worked_out, hk_Depths__worked_out⟩,
    F_Depths__rated_looks := F_Depths__rated_looks,
    b_Depths__rated_looks := F_Depths__rated_looks.binds (ps := ["self", "box"]) fun _ _ _ _ _ _ us hl => match us, hl with | [_, _], _ => rfl,
    m_Depths__rated_looks := ⟨ha_Depths__rated_looks, hi_Depths__rated_looks, hk_Depths__rated_looks⟩,
    F_Depths__left_behind := F_Depths__left_behind,
    b_Depths__left_behind := F_Depths__left_behind.binds (ps := ["self", "box", "look"]) fun _ _ _ _ _ _ us hl => match us, hl with | [_, _, _], _ => rfl,
    m_Depths__left_behind := ⟨ha_Depths__left_behind, hi_Depths__left_behind, hk_Depths__left_behind⟩,
    F_shape := F_shape,
    b_shape := F_shape.binds (ps := ["box"]) fun _ _ _ _ _ _ us hl => match us, hl with | [_], _ => rfl,
    g_shape := PySem.W.mg_of X G ha_shape,
    F_paper := F_paper,
    b_paper := F_paper.binds (ps := ["box"]) fun _ _ _ _ _ _ us hl => match us, hl with | [_], _ => rfl,
    g_paper := PySem.W.mg_of X G ha_paper,
    F_shows := F_shows,
    b_shows := F_shows.binds (ps := ["box", "depth", "rows"]) fun _ _ _ _ _ _ us hl => match us, hl with | [_, _, _], _ => rfl,
    g_shows := PySem.W.mg_of X G ha_shows,
    F_claimed_behind := F_claimed_behind,
    b_claimed_behind := F_claimed_behind.binds (ps := ["boxes", "depth", "claims", "depths"]) fun _ _ _ _ _ _ us hl => match us, hl with | [_, _, _, _], _ => rfl,
    g_claimed_behind := PySem.W.mg_of X G ha_claimed_behind,
    F_has_worlds := F_has_worlds,
    b_has_worlds := F_has_worlds.binds (ps := ["row", "total"]) fun _ _ _ _ _ _ us hl => match us, hl with | [_, _], _ => rfl,
    g_has_worlds := PySem.W.mg_of X G ha_has_worlds,
    F_greatest_claims := F_greatest_claims,
    b_greatest_claims := F_greatest_claims.binds (ps := ["rows"]) fun _ _ _ _ _ _ us hl => match us, hl with | [_], _ => rfl,
    g_greatest_claims := PySem.W.mg_of X G ha_greatest_claims,
    F_is_claimed := F_is_claimed,
    b_is_claimed := F_is_claimed.binds (ps := ["lows", "highs", "depth", "claims"]) fun _ _ _ _ _ _ us hl => match us, hl with | [_, _, _, _], _ => rfl,
    g_is_claimed := PySem.W.mg_of X G ha_is_claimed,
    F_is_shown := F_is_shown,
    b_is_shown := F_is_shown.binds (ps := ["row", "total", "claims"]) fun _ _ _ _ _ _ us hl => match us, hl with | [_, _, _], _ => rfl,
    g_is_shown := PySem.W.mg_of X G ha_is_shown,
    F_leaves := F_leaves,
    b_leaves := F_leaves.binds (ps := ["box", "look", "depth", "claims"]) fun _ _ _ _ _ _ us hl => match us, hl with | [_, _, _, _], _ => rfl,
    g_leaves := PySem.W.mg_of X G ha_leaves,
    F_least := F_least,
    b_least := F_least.binds (ps := ["box"]) fun _ _ _ _ _ _ us hl => match us, hl with | [_], _ => rfl,
    g_least := PySem.W.mg_of X G ha_least,
    F_plan := F_plan,
    b_plan := F_plan.binds (ps := ["box", "depths"]) fun _ _ _ _ _ _ us hl => match us, hl with | [_, _], _ => rfl,
    g_plan := PySem.W.mg_of X G ha_plan,
    F_l_start := F_l_start,
    b_l_start := F_l_start.binds (ps := ["_law_script"]) fun _ _ _ _ _ _ us hl => match us, hl with | [_], _ => rfl,
    g_l_start := PySem.W.mg_of X G ha_l_start,
    F_l_drawn := F_l_drawn,
    b_l_drawn := F_l_drawn.binds (ps := ["_law_state", "_law_many"]) fun _ _ _ _ _ _ us hl => match us, hl with | [_, _], _ => rfl,
    g_l_drawn := PySem.W.mg_of X G ha_l_drawn,
    F_l_same := F_l_same,
    b_l_same := F_l_same.binds (ps := ["_law_found", "_law_due"]) fun _ _ _ _ _ _ us hl => match us, hl with | [_, _], _ => rfl,
    g_l_same := PySem.W.mg_of X G ha_l_same,
    F_l_box := F_l_box,
    b_l_box := F_l_box.binds (ps := ["_law_state"]) fun _ _ _ _ _ _ us hl => match us, hl with | [_], _ => rfl,
    g_l_box := PySem.W.mg_of X G ha_l_box,
    F_l_of := F_l_of,
    b_l_of := F_l_of.binds (ps := ["_law_lows", "_law_highs", "_law_total"]) fun _ _ _ _ _ _ us hl => match us, hl with | [_, _, _], _ => rfl,
    g_l_of := PySem.W.mg_of X G ha_l_of,
    F_l_longer := F_l_longer,
    b_l_longer := F_l_longer.binds (ps := ["_law_found", "_law_low", "_law_high"]) fun _ _ _ _ _ _ us hl => match us, hl with | [_, _, _], _ => rfl,
    g_l_longer := PySem.W.mg_of X G ha_l_longer,
    F_l_narrow := F_l_narrow,
    b_l_narrow := F_l_narrow.binds (ps := ["_law_lows", "_law_highs", "_law_total"]) fun _ _ _ _ _ _ us hl => match us, hl with | [_, _, _], _ => rfl,
    g_l_narrow := PySem.W.mg_of X G ha_l_narrow,
    F_l_is_box := F_l_is_box,
    b_l_is_box := F_l_is_box.binds (ps := ["_law_lows", "_law_highs"]) fun _ _ _ _ _ _ us hl => match us, hl with | [_, _], _ => rfl,
    g_l_is_box := PySem.W.mg_of X G ha_l_is_box,
    F_l_claimed := F_l_claimed,
    b_l_claimed := F_l_claimed.binds (ps := ["_law_rows", "_law_sides"]) fun _ _ _ _ _ _ us hl => match us, hl with | [_, _], _ => rfl,
    g_l_claimed := PySem.W.mg_of X G ha_l_claimed,
    F_l_stands := F_l_stands,
    b_l_stands := F_l_stands.binds (ps := ["_law_rows", "_law_row", "_law_total"]) fun _ _ _ _ _ _ us hl => match us, hl with | [_, _, _], _ => rfl,
    g_l_stands := PySem.W.mg_of X G ha_l_stands,
    F_l_shown := F_l_shown,
    b_l_shown := F_l_shown.binds (ps := ["_law_box_here", "_law_depth", "_law_rows"]) fun _ _ _ _ _ _ us hl => match us, hl with | [_, _, _], _ => rfl,
    g_l_shown := PySem.W.mg_of X G ha_l_shown,
    F_l_are_rows := F_l_are_rows,
    b_l_are_rows := F_l_are_rows.binds (ps := ["_law_rows"]) fun _ _ _ _ _ _ us hl => match us, hl with | [_], _ => rfl,
    g_l_are_rows := PySem.W.mg_of X G ha_l_are_rows,
    F_law := F_law,
    b_law := F_law.binds (ps := ["_law_script"]) fun _ _ _ _ _ _ us hl => match us, hl with | [_], _ => rfl,
    g_law := PySem.W.mg_of X G ha_law }
  exact ⟨fd.law, fun s v => .of_eq rfl, fun base _ _ => ok_law T (exB_of exbb exbw exwb exww)⟩
theorem walk {l : PySem.W.OpenLaw} {q : Program} {loose : List Str} {XP : (Str → Option Value) → Heap → Prop} {YP : World → Heap → Prop} {d : DefRec} {K : Params → PySem.W.Frag} (hn : l.most = some 63) (hdf : d.params.defaults = [])
    (hY : ∀ (w : World) (h : Heap), YP w h → (K w.params).In h)
    (F : ∀ (w : World) (mg : Str → Option Value) (fa : Addr) (h : Heap), (K w.params).In h → h.Ns mainGlobals mg → mg d.name = some (.ref fa) →
      ∃ fd : FuncData, (∀ (s : Shared) (u : Value), BindsTo s fd ⟨[u], []⟩ [("_law_script", u)]) ∧ ∀ base : Heap, (K w.params).In base → base.Ns mainGlobals mg → FnOk l.prog w (K w.params) mg base CX0 119 fa fd ["_law_script"] (spLaw (K w.params))) :
    PySem.W.WalkO q loose XP YP l.row.toRowW d [] (fun f vs => PySem.call f vs) :=
  L2.walk_of (n := 63) (k := 119) (x := "_law_script") (CX := fun _ => CX0) (sp := fun w => spLaw (K w.params)) hn (by decide) hdf ⟨rfl, by decide, by decide⟩ hY F (fun _ _ a ns hl _ hS => ⟨a, ns, rfl, hS, hl, fun _ => rfl⟩) fun _ _ _ _ _ z => z
end Nu
open PySem PySem.W PyProof.Rows in
set_option maxRecDepth 100000 in
set_option maxHeartbeats 0 in
theorem PySem.Challenge.cw_numbergaps_k12_whole_a_paper_shows_that_holds : PySem.Challenge.rw_numbergaps_k12_whole_a_paper_shows_that.Holds := by
  w_on; o_law; k_head; (case hw => w_witness2)
  k_fill
  refine Nu.walk (l := PySem.Challenge.rw_numbergaps_k12_whole_a_paper_shows_that) rfl rfl (fun w h Y => PySem.W.kIn_of Y) ?F
  case F =>
    intro w mg fa h KX G hmg
    refine' Nu.all_mk KX G hmg ?hC ?hn_ValueError ?hn_all ?hn_any ?hn_bool ?hn_int ?hn_isinstance ?hn_len ?hn_list ?hn_max ?hn_min ?hn_range ?hn_sorted ?hn_str ?hn_sum ?hn_tuple ?hn_zip ?hc_MOST_PLACES ?hc_GREATEST_HIGH ?ha_narrowed ?hl_narrowed ?hd_narrowed ?hk_narrowed ?ha_check_total ?hl_check_total ?hd_check_total ?hk_check_total ?ha_tight ?hl_tight ?hd_tight ?hk_tight ?ha_looks_in ?hl_looks_in ?hd_looks_in ?hk_looks_in ?ha_parted ?hl_parted ?hd_parted ?hk_parted ?ha_tightened ?hl_tightened ?hd_tightened ?hk_tightened ?ha_check_box ?hl_check_box ?hd_check_box ?hk_check_box ?ha_Depths_init ?hi_Depths_init ?hl_Depths_init ?hd_Depths_init ?hk_Depths_init ?ha_Depths_depth_of ?hi_Depths_depth_of ?hl_Depths_depth_of ?hd_Depths_depth_of ?hk_Depths_depth_of ?ha_Depths_best_look ?hi_Depths_best_look ?hl_Depths_best_look ?hd_Depths_best_look ?hk_Depths_best_look ?ha_Depths__worked_out ?hi_Depths__worked_out ?hl_Depths__worked_out ?hd_Depths__worked_out ?hk_Depths__worked_out ?ha_Depths__rated_looks ?hi_Depths__rated_looks ?hl_Depths__rated_looks ?hd_Depths__rated_looks ?hk_Depths__rated_looks ?ha_Depths__left_behind ?hi_Depths__left_behind ?hl_Depths__left_behind ?hd_Depths__left_behind ?hk_Depths__left_behind ?ha_shape ?hl_shape ?hd_shape ?hk_shape ?ha_paper ?hl_paper ?hd_paper ?hk_paper ?ha_shows ?hl_shows ?hd_shows ?hk_shows ?ha_claimed_behind ?hl_claimed_behind ?hd_claimed_behind ?hk_claimed_behind ?ha_has_worlds ?hl_has_worlds ?hd_has_worlds ?hk_has_worlds ?ha_greatest_claims ?hl_greatest_claims ?hd_greatest_claims ?hk_greatest_claims ?ha_is_claimed ?hl_is_claimed ?hd_is_claimed ?hk_is_claimed ?ha_is_shown ?hl_is_shown ?hd_is_shown ?hk_is_shown ?ha_leaves ?hl_leaves ?hd_leaves ?hk_leaves ?ha_least ?hl_least ?hd_least ?hk_least ?ha_plan ?hl_plan ?hd_plan ?hk_plan ?ha_l_start ?hl_l_start ?hd_l_start ?hk_l_start ?ha_l_drawn ?hl_l_drawn ?hd_l_drawn ?hk_l_drawn ?ha_l_same ?hl_l_same ?hd_l_same ?hk_l_same ?ha_l_box ?hl_l_box ?hd_l_box ?hk_l_box ?ha_l_of ?hl_l_of ?hd_l_of ?hk_l_of ?ha_l_longer ?hl_l_longer ?hd_l_longer ?hk_l_longer ?ha_l_narrow ?hl_l_narrow ?hd_l_narrow ?hk_l_narrow ?ha_l_is_box ?hl_l_is_box ?hd_l_is_box ?hk_l_is_box ?ha_l_claimed ?hl_l_claimed ?hd_l_claimed ?hk_l_claimed ?ha_l_stands ?hl_l_stands ?hd_l_stands ?hk_l_stands ?ha_l_shown ?hl_l_shown ?hd_l_shown ?hk_l_shown ?ha_l_are_rows ?hl_l_are_rows ?hd_l_are_rows ?hk_l_are_rows ?ha_law ?hl_law ?hd_law ?hk_law ?pg ?hd ?po ?sa ?mk ?kc ?hna_known ?xg_GapError ?xx_GapError ?xk_GapError ?xb_GapError ?xt_GapError ?xg_NoWorld ?xx_NoWorld ?xk_NoWorld ?xb_NoWorld ?xt_NoWorld ?xg_NoBox ?xx_NoBox ?xk_NoBox ?xb_NoBox ?xt_NoBox ?exbb ?exbw ?exwb ?exww
    (case hC => k_is)
    (case hn_ValueError => k_is)
    (case hn_all => k_is)
    (case hn_any => k_is)
    (case hn_bool => k_is)
    (case hn_int => k_is)
    (case hn_isinstance => k_is)
    (case hn_len => k_is)
    (case hn_list => k_is)
    (case hn_max => k_is)
    (case hn_min => k_is)
    (case hn_range => k_is)
    (case hn_sorted => k_is)
    (case hn_str => k_is)
    (case hn_sum => k_is)
    (case hn_tuple => k_is)
    (case hn_zip => k_is)
    (case hc_MOST_PLACES => k_is)
    (case hc_GREATEST_HIGH => k_is)
    (case ha_narrowed => k_is)
    (case hl_narrowed => k_is)
    (case hd_narrowed => k_is)
    (case hk_narrowed => k_is)
    (case ha_check_total => k_is)
    (case hl_check_total => k_is)
    (case hd_check_total => k_is)
    (case hk_check_total => k_is)
    (case ha_tight => k_is)
    (case hl_tight => k_is)
    (case hd_tight => k_is)
    (case hk_tight => k_is)
    (case ha_looks_in => k_is)
    (case hl_looks_in => k_is)
    (case hd_looks_in => k_is)
    (case hk_looks_in => k_is)
    (case ha_parted => k_is)
    (case hl_parted => k_is)
    (case hd_parted => k_is)
    (case hk_parted => k_is)
    (case ha_tightened => k_is)
    (case hl_tightened => k_is)
    (case hd_tightened => k_is)
    (case hk_tightened => k_is)
    (case ha_check_box => k_is)
    (case hl_check_box => k_is)
    (case hd_check_box => k_is)
    (case hk_check_box => k_is)
    (case ha_Depths_init => k_is)
    (case hi_Depths_init => k_is)
    (case hl_Depths_init => k_is)
    (case hd_Depths_init => k_is)
    (case hk_Depths_init => k_is)
    (case ha_Depths_depth_of => k_is)
    (case hi_Depths_depth_of => k_is)
    (case hl_Depths_depth_of => k_is)
    (case hd_Depths_depth_of => k_is)
    (case hk_Depths_depth_of => k_is)
    (case ha_Depths_best_look => k_is)
    (case hi_Depths_best_look => k_is)
    (case hl_Depths_best_look => k_is)
    (case hd_Depths_best_look => k_is)
    (case hk_Depths_best_look => k_is)
    (case ha_Depths__worked_out => k_is)
    (case hi_Depths__worked_out => k_is)
    (case hl_Depths__worked_out => k_is)
    (case hd_Depths__worked_out => k_is)
    (case hk_Depths__worked_out => k_is)
    (case ha_Depths__rated_looks => k_is)
    (case hi_Depths__rated_looks => k_is)
    (case hl_Depths__rated_looks => k_is)
    (case hd_Depths__rated_looks => k_is)
    (case hk_Depths__rated_looks => k_is)
    (case ha_Depths__left_behind => k_is)
    (case hi_Depths__left_behind => k_is)
    (case hl_Depths__left_behind => k_is)
    (case hd_Depths__left_behind => k_is)
    (case hk_Depths__left_behind => k_is)
    (case ha_shape => k_is)
    (case hl_shape => k_is)
    (case hd_shape => k_is)
    (case hk_shape => k_is)
    (case ha_paper => k_is)
    (case hl_paper => k_is)
    (case hd_paper => k_is)
    (case hk_paper => k_is)
    (case ha_shows => k_is)
    (case hl_shows => k_is)
    (case hd_shows => k_is)
    (case hk_shows => k_is)
    (case ha_claimed_behind => k_is)
    (case hl_claimed_behind => k_is)
    (case hd_claimed_behind => k_is)
    (case hk_claimed_behind => k_is)
    (case ha_has_worlds => k_is)
    (case hl_has_worlds => k_is)
    (case hd_has_worlds => k_is)
    (case hk_has_worlds => k_is)
    (case ha_greatest_claims => k_is)
    (case hl_greatest_claims => k_is)
    (case hd_greatest_claims => k_is)
    (case hk_greatest_claims => k_is)
    (case ha_is_claimed => k_is)
    (case hl_is_claimed => k_is)
    (case hd_is_claimed => k_is)
    (case hk_is_claimed => k_is)
    (case ha_is_shown => k_is)
    (case hl_is_shown => k_is)
    (case hd_is_shown => k_is)
    (case hk_is_shown => k_is)
    (case ha_leaves => k_is)
    (case hl_leaves => k_is)
    (case hd_leaves => k_is)
    (case hk_leaves => k_is)
    (case ha_least => k_is)
    (case hl_least => k_is)
    (case hd_least => k_is)
    (case hk_least => k_is)
    (case ha_plan => k_is)
    (case hl_plan => k_is)
    (case hd_plan => k_is)
    (case hk_plan => k_is)
    (case ha_l_start => k_is)
    (case hl_l_start => k_is)
    (case hd_l_start => k_is)
    (case hk_l_start => k_is)
    (case ha_l_drawn => k_is)
    (case hl_l_drawn => k_is)
    (case hd_l_drawn => k_is)
    (case hk_l_drawn => k_is)
    (case ha_l_same => k_is)
    (case hl_l_same => k_is)
    (case hd_l_same => k_is)
    (case hk_l_same => k_is)
    (case ha_l_box => k_is)
    (case hl_l_box => k_is)
    (case hd_l_box => k_is)
    (case hk_l_box => k_is)
    (case ha_l_of => k_is)
    (case hl_l_of => k_is)
    (case hd_l_of => k_is)
    (case hk_l_of => k_is)
    (case ha_l_longer => k_is)
    (case hl_l_longer => k_is)
    (case hd_l_longer => k_is)
    (case hk_l_longer => k_is)
    (case ha_l_narrow => k_is)
    (case hl_l_narrow => k_is)
    (case hd_l_narrow => k_is)
    (case hk_l_narrow => k_is)
    (case ha_l_is_box => k_is)
    (case hl_l_is_box => k_is)
    (case hd_l_is_box => k_is)
    (case hk_l_is_box => k_is)
    (case ha_l_claimed => k_is)
    (case hl_l_claimed => k_is)
    (case hd_l_claimed => k_is)
    (case hk_l_claimed => k_is)
    (case ha_l_stands => k_is)
    (case hl_l_stands => k_is)
    (case hd_l_stands => k_is)
    (case hk_l_stands => k_is)
    (case ha_l_shown => k_is)
    (case hl_l_shown => k_is)
    (case hd_l_shown => k_is)
    (case hk_l_shown => k_is)
    (case ha_l_are_rows => k_is)
    (case hl_l_are_rows => k_is)
    (case hd_l_are_rows => k_is)
    (case hk_l_are_rows => k_is)
    (case ha_law => k_is)
    (case hl_law => k_is)
    (case hd_law => k_is)
    (case hk_law => k_is)
    (case pg => k_is)
    (case hd => k_is)
    (case po => k_is)
    (case sa => k_is)
    (case mk => k_is)
    (case kc => k_is)
    (case hna_known => k_is)
    (case xg_GapError => k_is)
    (case xx_GapError => k_exc)
    (case xk_GapError => k_is)
    (case xb_GapError => k_is)
    (case xt_GapError => k_is)
    (case xg_NoWorld => k_is)
    (case xx_NoWorld => k_exc)
    (case xk_NoWorld => k_is)
    (case xb_NoWorld => k_is)
    (case xt_NoWorld => k_is)
    (case xg_NoBox => k_is)
    (case xx_NoBox => k_exc)
    (case xk_NoBox => k_is)
    (case xb_NoBox => k_is)
    (case xt_NoBox => k_is)
    (case exbb => kts_exm)
    (case exbw => kts_exm)
    (case exwb => kts_exm)
    (case exww => kts_exm)
