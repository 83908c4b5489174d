import PyProof.Rows.All
import Wide.All
import OpenK.AllK
import Wide.FinOn
import HandS.ForMost
import HandS.ForExc
import HandS.DictComp
import HandS.FStr
import HandS.Small
import HandS.IsInst
import HandS.ExcIs
import HandS.Wide
import HandS.SortInts
import HandS.Conv
import HandS.Zip
import HandS.Flow
import PySem.Challenge.RW_numbergaps_k17_books_played
import KE.KSortedM
import HandS.Codes
import HandS.Walk
import HandS.More
import HandS.TryMany
set_option Elab.async false
set_option linter.all false
set_option maxRecDepth 100000
set_option maxHeartbeats 4000000
namespace Nu
open PySem L2
/-! ### plain mathematics -/
theorem le_of_nodup : ∀ (n : Nat) (l : List Int), l.Nodup → (∀ x ∈ l, 1 ≤ x ∧ x ≤ (n : Int)) → l.length ≤ n
  | 0, l, _, h => by
    cases l with
    | nil => exact Nat.le_refl _
    | cons x r => have := h x List.mem_cons_self; omega
  | n + 1, l, nd, h => by
    have h1 : (l.filter fun x => decide (x ≠ ((n : Int) + 1))).length ≤ n := by
      refine le_of_nodup n _ (nd.filter _) fun x hx => ?_
      obtain ⟨m, e⟩ := List.mem_filter.mp hx
      have := h x m
      have e' : x ≠ (n : Int) + 1 := by simpa using e
      omega
    have h2 : l.length ≤ (l.filter fun x => decide (x ≠ ((n : Int) + 1))).length + 1 := by
      have aux : ∀ (l : List Int), l.Nodup → l.length ≤ (l.filter fun x => decide (x ≠ ((n : Int) + 1))).length + 1 := by
        intro l
        induction l with
        | nil => intro _; exact Nat.zero_le _
        | cons x r ih =>
          intro nd
          obtain ⟨hx, nr⟩ := List.nodup_cons.mp nd
          by_cases e : x = (n : Int) + 1
          · have er : r.filter (fun x => decide (x ≠ ((n : Int) + 1))) = r := by
              refine List.filter_eq_self.mpr fun y hy => ?_
              have : y ≠ (n : Int) + 1 := fun z => hx (by rw [e, ← z]; exact hy)
              simpa using this
            rw [List.filter_cons_of_neg (by simp [e]), er]
            simp
          · rw [List.filter_cons_of_pos (by simpa using e)]
            have := ih nr
            simp only [List.length_cons]
            omega
      exact aux l nd
    omega
/-! ### the dict of states -/
def stK (top : Nat) (st : Int → Str) : List (Key × V) := (List.range top).map fun (i : Nat) => ((Sum.inl ((i : Int) + 1) : Key), V.str (st ((i : Int) + 1)))
theorem stK_succ (top : Nat) (st : Int → Str) : stK (top + 1) st = stK top st ++ [((Sum.inl ((top : Int) + 1) : Key), V.str (st ((top : Int) + 1)))] := by
  unfold stK
  rw [List.range_succ, List.map_append]
  rfl
theorem stK_length (top : Nat) (st : Int → Str) : (stK top st).length = top := by
  unfold stK
  rw [List.length_map, List.length_range]
theorem valV_app {kvs : List (Key × V)} {k j : Key} {y : V} (h : valV kvs k = none) : valV (kvs ++ [(k, y)]) j = if j = k then some y else valV kvs j := valV_snoc k j y kvs h
theorem valV_stK : ∀ (top : Nat) (st : Int → Str) (n : Int), valV (stK top st) (Sum.inl n) = if 1 ≤ n ∧ n ≤ (top : Int) then some (.str (st n)) else none
  | 0, st, n => by
    rw [if_neg (by omega)]
    rfl
  | top + 1, st, n => by
    have h0 : valV (stK top st) (Sum.inl ((top : Int) + 1)) = none := by
      rw [valV_stK top st, if_neg (by omega)]
    rw [stK_succ, valV_app h0]
    by_cases e : n = (top : Int) + 1
    · subst e
      rw [if_pos rfl, if_pos (by omega)]
    · rw [if_neg (fun z => e (Sum.inl.inj z)), valV_stK top st n]
      by_cases c : 1 ≤ n ∧ n ≤ (top : Int)
      · rw [if_pos c, if_pos (by omega)]
      · rw [if_neg c, if_neg (by omega)]
theorem putK_stK (top : Nat) (st : Int → Str) (n : Int) (s : Str) (h : 1 ≤ n ∧ n ≤ (top : Int)) : putK (stK top st) (Sum.inl n) (.str s) = stK top (fun m => if m = n then s else st m) := by
  unfold putK
  rw [valV_any, valV_stK, if_pos h]
  rw [if_pos (by rfl)]
  unfold stK
  rw [List.map_map]
  refine List.map_congr_left fun i _ => ?_
  show (if (Sum.inl ((i : Int) + 1) : Key) = Sum.inl n then ((Sum.inl ((i : Int) + 1) : Key), V.str s) else ((Sum.inl ((i : Int) + 1) : Key), V.str (st ((i : Int) + 1)))) = _
  by_cases e : (i : Int) + 1 = n
  · rw [if_pos (by rw [e])]
    show _ = ((Sum.inl ((i : Int) + 1) : Key), V.str (if (i : Int) + 1 = n then s else st ((i : Int) + 1)))
    rw [if_pos e]
  · rw [if_neg (fun z => e (Sum.inl.inj z))]
    show _ = ((Sum.inl ((i : Int) + 1) : Key), V.str (if (i : Int) + 1 = n then s else st ((i : Int) + 1)))
    rw [if_neg e]
theorem stK_grow (top : Nat) (st : Int → Str) : putK (stK top st) (Sum.inl ((top : Int) + 1)) (.str (st ((top : Int) + 1))) = stK (top + 1) st := by
  rw [putK_new _ (by rw [valV_stK, if_neg (by omega)]), stK_succ]
theorem stK_keys (top : Nat) (st : Int → Str) : (stK top st).map (fun kv => kV kv.1) = (List.range top).map fun (i : Nat) => V.int ((i : Int) + 1) := by
  unfold stK
  rw [List.map_map]
  rfl
/-! ### an office, as data -/
structure Of where
  top : Nat
  st : Int → Str
  ho : Int → Option Int
  sg : List Str
  le : List (List Int)
structure Wf (o : Of) : Prop where
  t1 : 1 ≤ o.top
  t400 : o.top ≤ 400
  d1 : 1 ≤ o.le.length
  d6 : o.le.length ≤ 6
  sl : o.sg.length = o.le.length
  own : ∀ (d : Nat) (ns : List Int), o.le[d]? = some ns → ns.Nodup ∧ ∀ n ∈ ns, 1 ≤ n ∧ n ≤ (o.top : Int) ∧ o.ho n = some (d : Int)
  hol : ∀ (n d : Int), o.ho n = some d → ∃ ns, 0 ≤ d ∧ o.le[d.toNat]? = some ns ∧ n ∈ ns
  fre : ∀ n, o.st n = "free" → o.ho n = none
theorem Wf.len400 {o : Of} (w : Wf o) {d : Nat} {ns : List Int} (h : o.le[d]? = some ns) : ns.length ≤ 400 := by
  obtain ⟨nd, hn⟩ := w.own d ns h
  have := le_of_nodup o.top ns nd fun x hx => ⟨(hn x hx).1, (hn x hx).2.1⟩
  have := w.t400
  omega
/-- the holders' dict tells ho -/
structure HolK (hk : List (Key × V)) (o : Of) : Prop where
  nd : (hk.map (·.1)).Nodup
  at_ : ∀ n : Int, valV hk (Sum.inl n) = (o.ho n).map V.int
  tx : ∀ x : Str, valV hk (Sum.inr x) = none
theorem valV_mem {kvs : List (Key × V)} {k : Key} (h : k ∈ kvs.map (·.1)) : ∃ v, valV kvs k = some v := by
  cases e : valV kvs k with
  | none => exact absurd h (valV_not e)
  | some v => exact ⟨v, rfl⟩
def keyI : Key → Int
  | .inl i => i
  | .inr _ => 0
theorem HolK.le {hk : List (Key × V)} {o : Of} (h : HolK hk o) (w : Wf o) : hk.length ≤ 400 := by
  have kin : ∀ k ∈ hk.map (·.1), ∃ n : Int, k = Sum.inl n ∧ 1 ≤ n ∧ n ≤ (o.top : Int) := by
    intro k hk'
    obtain ⟨v, e⟩ := valV_mem hk'
    cases k with
    | inr x => rw [h.tx x] at e; cases e
    | inl n =>
      rw [h.at_ n] at e
      cases eo : o.ho n with
      | none => rw [eo] at e; cases e
      | some d =>
        obtain ⟨ns, h0, h1, h2⟩ := w.hol n d eo
        have := (w.own _ _ h1).2 n h2
        exact ⟨n, rfl, this.1, this.2.1⟩
  have nd2 : ∀ (l : List Key), l.Nodup → (∀ k ∈ l, ∃ n : Int, k = Sum.inl n ∧ 1 ≤ n ∧ n ≤ (o.top : Int)) → (l.map keyI).Nodup := by
    intro l
    induction l with
    | nil => intro _ _; exact List.nodup_nil
    | cons k r ih =>
      intro nd hh
      obtain ⟨hx, nr⟩ := List.nodup_cons.mp nd
      refine List.nodup_cons.mpr ⟨fun m => ?_, ih nr fun k' hk' => hh k' (List.mem_cons_of_mem _ hk')⟩
      obtain ⟨k', hk', e⟩ := List.mem_map.mp m
      obtain ⟨n, en, _⟩ := hh k List.mem_cons_self
      obtain ⟨n', en', _⟩ := hh k' (List.mem_cons_of_mem _ hk')
      rw [en, en'] at e
      have e' : n' = n := e
      exact hx (by rw [en, ← e', ← en']; exact hk')
  have h1 : ((hk.map (·.1)).map keyI).length ≤ o.top := by
    refine le_of_nodup o.top _ (nd2 _ h.nd kin) fun x hx => ?_
    obtain ⟨k, hk', e⟩ := List.mem_map.mp hx
    obtain ⟨n, en, b⟩ := kin k hk'
    rw [en] at e
    have e' : n = x := e
    rw [← e']
    exact b
  rw [List.length_map, List.length_map] at h1
  have := w.t400
  omega
/-! ### heaps -/
/-- what is tracked outside of F stays -/
def Keep (F : List Addr) (H H' : Hp) : Prop := ∀ c o, H c = some o → c ∉ F → H' c = some o
theorem Keep.refl (F : List Addr) (H : Hp) : Keep F H H := fun _ _ h _ => h
theorem Keep.trans {F : List Addr} {H H1 H2 : Hp} (a : Keep F H H1) (b : Keep F H1 H2) : Keep F H H2 := fun c o h n => b c o (a c o h n) n
theorem Keep.same {F : List Addr} {H H' : Hp} (s : Same H H') : Keep F H H' := fun c o h _ => s c o h
theorem keep_upd {F : List Addr} {H : Hp} {a : Addr} {o : HO} (h : a ∈ F ∨ H a = none) : Keep F H (upd H a o) := fun c u e n => by
  have ne : c ≠ a := fun z => by
    rcases h with h | h
    · exact n (by rw [z]; exact h)
    · rw [z, h] at e; cases e
  rw [upd_ne ne]
  exact e
theorem same_upd {H : Hp} {a : Addr} {o : HO} (h : H a = none) : Same H (upd H a o) := fun c u e => by
  rw [upd_ne (fun z => by rw [z, h] at e; cases e)]
  exact e
end Nu
namespace Nu
open PySem PySem.Spec PyProof.Rows L2
def top (i : Nat) : Stmt := PySem.Challenge.pw_numbergaps_k17_books_played.main.body.getD i (.Pass ⟨0, 0, 0, 0⟩)
abbrev s_Office_init : Stmt := inClass (top 27) 0
theorem sc_Office_init : FnScope ["self", "top", "desks", "number", "desk"] ["self", "top", "desks"] (defScope s_Office_init) := ⟨rfl, rfl, rfl, by decide +kernel, rfl, by decide +kernel, by decide +kernel⟩
abbrev s_Office_lend : Stmt := inClass (top 27) 1
theorem sc_Office_lend : FnScope ["self", "desk", "many", "first", "last", "number"] ["self", "desk", "many"] (defScope s_Office_lend) := ⟨rfl, rfl, rfl, by decide +kernel, rfl, by decide +kernel, by decide +kernel⟩
abbrev s_Office_report : Stmt := inClass (top 27) 2
theorem sc_Office_report : FnScope ["self", "desk", "words", "word", "numbers", "number"] ["self", "desk", "words"] (defScope s_Office_report) := ⟨rfl, rfl, rfl, by decide +kernel, rfl, by decide +kernel, by decide +kernel⟩
abbrev s_Office_back : Stmt := inClass (top 27) 3
theorem sc_Office_back : FnScope ["self", "desk", "numbers", "number"] ["self", "desk"] (defScope s_Office_back) := ⟨rfl, rfl, rfl, by decide +kernel, rfl, by decide +kernel, by decide +kernel⟩
abbrev s_Office_stop : Stmt := inClass (top 27) 4
theorem sc_Office_stop : FnScope ["self", "desk", "number"] ["self", "desk"] (defScope s_Office_stop) := ⟨rfl, rfl, rfl, by decide +kernel, rfl, by decide +kernel, by decide +kernel⟩
abbrev s_Office_found : Stmt := inClass (top 27) 5
theorem sc_Office_found : FnScope ["self", "number", "desk", "rest"] ["self", "number"] (defScope s_Office_found) := ⟨rfl, rfl, rfl, by decide +kernel, rfl, by decide +kernel, by decide +kernel⟩
abbrev s_Office_settle : Stmt := inClass (top 27) 6
theorem sc_Office_settle : FnScope ["self", "desk", "many", "rest", "unused", "number"] ["self", "desk", "many"] (defScope s_Office_settle) := ⟨rfl, rfl, rfl, by decide +kernel, rfl, by decide +kernel, by decide +kernel⟩
abbrev s_Office_open_numbers : Stmt := inClass (top 27) 7
theorem sc_Office_open_numbers : FnScope ["self", "desk"] ["self", "desk"] (defScope s_Office_open_numbers) := ⟨rfl, rfl, rfl, by decide +kernel, rfl, by decide +kernel, by decide +kernel⟩
abbrev s_Office_rest : Stmt := inClass (top 27) 8
theorem sc_Office_rest : FnScope ["self", "desk"] ["self", "desk"] (defScope s_Office_rest) := ⟨rfl, rfl, rfl, by decide +kernel, rfl, by decide +kernel, by decide +kernel⟩
abbrev s_Office_has_rest : Stmt := inClass (top 27) 9
theorem sc_Office_has_rest : FnScope ["self", "desk"] ["self", "desk"] (defScope s_Office_has_rest) := ⟨rfl, rfl, rfl, by decide +kernel, rfl, by decide +kernel, by decide +kernel⟩
abbrev s_Office_least_used : Stmt := inClass (top 27) 11
theorem sc_Office_least_used : FnScope ["self", "desk", "number"] ["self", "desk"] (defScope s_Office_least_used) := ⟨rfl, rfl, rfl, by decide +kernel, rfl, by decide +kernel, by decide +kernel⟩
abbrev s_Office_numbers : Stmt := inClass (top 27) 12
theorem sc_Office_numbers : FnScope ["self"] ["self"] (defScope s_Office_numbers) := ⟨rfl, rfl, rfl, by decide +kernel, rfl, by decide +kernel, by decide +kernel⟩
abbrev s_Office_state : Stmt := inClass (top 27) 13
theorem sc_Office_state : FnScope ["self", "number"] ["self", "number"] (defScope s_Office_state) := ⟨rfl, rfl, rfl, by decide +kernel, rfl, by decide +kernel, by decide +kernel⟩
abbrev s_Office_holder : Stmt := inClass (top 27) 14
theorem sc_Office_holder : FnScope ["self", "number"] ["self", "number"] (defScope s_Office_holder) := ⟨rfl, rfl, rfl, by decide +kernel, rfl, by decide +kernel, by decide +kernel⟩
abbrev s_Office__check_desk : Stmt := inClass (top 27) 15
theorem sc_Office__check_desk : FnScope ["self", "desk"] ["self", "desk"] (defScope s_Office__check_desk) := ⟨rfl, rfl, rfl, by decide +kernel, rfl, by decide +kernel, by decide +kernel⟩
abbrev s_Office__check_going : Stmt := inClass (top 27) 16
theorem sc_Office__check_going : FnScope ["self", "desk"] ["self", "desk"] (defScope s_Office__check_going) := ⟨rfl, rfl, rfl, by decide +kernel, rfl, by decide +kernel, by decide +kernel⟩
abbrev s_Office__first_of_free : Stmt := inClass (top 27) 17
theorem sc_Office__first_of_free : FnScope ["self", "many", "run", "number"] ["self", "many"] (defScope s_Office__first_of_free) := ⟨rfl, rfl, rfl, by decide +kernel, rfl, by decide +kernel, by decide +kernel⟩
abbrev s_Office__let_go : Stmt := inClass (top 27) 18
theorem sc_Office__let_go : FnScope ["self", "number", "state"] ["self", "number", "state"] (defScope s_Office__let_go) := ⟨rfl, rfl, rfl, by decide +kernel, rfl, by decide +kernel, by decide +kernel⟩
abbrev s_Office__use : Stmt := inClass (top 27) 19
theorem sc_Office__use : FnScope ["self", "numbers", "number"] ["self", "numbers"] (defScope s_Office__use) := ⟨rfl, rfl, rfl, by decide +kernel, rfl, by decide +kernel, by decide +kernel⟩
abbrev s_played : Stmt := top 35
theorem sc_played : FnScope ["top", "desks", "book", "office", "answers", "text"] ["top", "desks", "book"] (defScope s_played) := ⟨rfl, rfl, rfl, by decide +kernel, rfl, by decide +kernel, by decide +kernel⟩
abbrev s_answer : Stmt := top 36
theorem sc_answer : FnScope ["office", "words"] ["office", "words"] (defScope s_answer) := ⟨rfl, rfl, rfl, by decide +kernel, rfl, by decide +kernel, by decide +kernel⟩
abbrev s_done : Stmt := top 37
theorem sc_done : FnScope ["office", "words", "deed", "number", "first", "last"] ["office", "words"] (defScope s_done) := ⟨rfl, rfl, rfl, by decide +kernel, rfl, by decide +kernel, by decide +kernel⟩
abbrev s_is_deed : Stmt := top 38
theorem sc_is_deed : FnScope ["words", "word"] ["words"] (defScope s_is_deed) := ⟨rfl, rfl, rfl, by decide +kernel, rfl, by decide +kernel, by decide +kernel⟩
abbrev s_are_reported : Stmt := top 39
theorem sc_are_reported : FnScope ["words", "word"] ["words"] (defScope s_are_reported) := ⟨rfl, rfl, rfl, by decide +kernel, rfl, by decide +kernel, by decide +kernel⟩
abbrev s_is_number : Stmt := top 40
theorem sc_is_number : FnScope ["word", "figure"] ["word"] (defScope s_is_number) := ⟨rfl, rfl, rfl, by decide +kernel, rfl, by decide +kernel, by decide +kernel⟩
abbrev s_state_of : Stmt := top 42
theorem sc_state_of : FnScope ["office", "number"] ["office", "number"] (defScope s_state_of) := ⟨rfl, rfl, rfl, by decide +kernel, rfl, by decide +kernel, by decide +kernel⟩
abbrev s_l_start : Stmt := top 44
theorem sc_l_start : FnScope ["_law_script", "_law_mixed", "_law_cell"] ["_law_script"] (defScope s_l_start) := ⟨rfl, rfl, rfl, by decide +kernel, rfl, by decide +kernel, by decide +kernel⟩
abbrev s_l_drawn : Stmt := top 45
theorem sc_l_drawn : FnScope ["_law_state_here", "_law_many", "_law_found_here", "_law_cell"] ["_law_state_here", "_law_many"] (defScope s_l_drawn) := ⟨rfl, rfl, rfl, by decide +kernel, rfl, by decide +kernel, by decide +kernel⟩
abbrev s_l_same : Stmt := top 46
theorem sc_l_same : FnScope ["_law_found_here", "_law_due_here", "_law_k"] ["_law_found_here", "_law_due_here"] (defScope s_l_same) := ⟨rfl, rfl, rfl, by decide +kernel, rfl, by decide +kernel, by decide +kernel⟩
abbrev s_l_office : Stmt := top 47
theorem sc_l_office : FnScope ["_law_top", "_law_desks", "_law_found_here", "_law_k"] ["_law_top", "_law_desks"] (defScope s_l_office) := ⟨rfl, rfl, rfl, by decide +kernel, rfl, by decide +kernel, by decide +kernel⟩
abbrev s_l_holder : Stmt := top 48
theorem sc_l_holder : FnScope ["_law_m", "_law_number", "_law_desk"] ["_law_m", "_law_number"] (defScope s_l_holder) := ⟨rfl, rfl, rfl, by decide +kernel, rfl, by decide +kernel, by decide +kernel⟩
abbrev s_l_lent : Stmt := top 49
theorem sc_l_lent : FnScope ["_law_m", "_law_desk", "_law_many", "_law_taken", "_law_row", "_law_number", "_law_first", "_law_block"] ["_law_m", "_law_desk", "_law_many"] (defScope s_l_lent) := ⟨rfl, rfl, rfl, by decide +kernel, rfl, by decide +kernel, by decide +kernel⟩
abbrev s_l_reported : Stmt := top 50
theorem sc_l_reported : FnScope ["_law_m", "_law_desk", "_law_words_here", "_law_word", "_law_row", "_law_k"] ["_law_m", "_law_desk", "_law_words_here"] (defScope s_l_reported) := ⟨rfl, rfl, rfl, by decide +kernel, rfl, by decide +kernel, by decide +kernel⟩
abbrev s_l_found : Stmt := top 51
theorem sc_l_found : FnScope ["_law_m", "_law_number", "_law_desk"] ["_law_m", "_law_number"] (defScope s_l_found) := ⟨rfl, rfl, rfl, by decide +kernel, rfl, by decide +kernel, by decide +kernel⟩
abbrev s_l_settled : Stmt := top 52
theorem sc_l_settled : FnScope ["_law_m", "_law_desk", "_law_many", "_law_row", "_law_number"] ["_law_m", "_law_desk", "_law_many"] (defScope s_l_settled) := ⟨rfl, rfl, rfl, by decide +kernel, rfl, by decide +kernel, by decide +kernel⟩
abbrev s_l_due : Stmt := top 53
theorem sc_l_due : FnScope ["_law_m", "_law_deed_here", "_law_desk", "_law_row"] ["_law_m", "_law_deed_here"] (defScope s_l_due) := ⟨rfl, rfl, rfl, by decide +kernel, rfl, by decide +kernel, by decide +kernel⟩
abbrev s_l_does : Stmt := top 54
theorem sc_l_does : FnScope ["_law_office_here", "_law_deed_here"] ["_law_office_here", "_law_deed_here"] (defScope s_l_does) := ⟨rfl, rfl, rfl, by decide +kernel, rfl, by decide +kernel, by decide +kernel⟩
abbrev s_l_told : Stmt := top 55
theorem sc_l_told : FnScope ["_law_office_here", "_law_deed_here", "e", "_law_words_here", "_law_kinds"] ["_law_office_here", "_law_deed_here"] (defScope s_l_told) := ⟨rfl, rfl, rfl, by decide +kernel, rfl, by decide +kernel, by decide +kernel⟩
abbrev s_l_far : Stmt := top 56
theorem sc_l_far : FnScope ["_law_state_here", "_law_most", "_law_far_here"] ["_law_state_here", "_law_most"] (defScope s_l_far) := ⟨rfl, rfl, rfl, by decide +kernel, rfl, by decide +kernel, by decide +kernel⟩
abbrev s_l_words : Stmt := top 57
theorem sc_l_words : FnScope ["_law_state_here", "_law_many", "_law_k"] ["_law_state_here", "_law_many"] (defScope s_l_words) := ⟨rfl, rfl, rfl, by decide +kernel, rfl, by decide +kernel, by decide +kernel⟩
abbrev s_l_deed : Stmt := top 58
theorem sc_l_deed : FnScope ["_law_state_here", "_law_m", "_law_wide", "_law_desk", "_law_row", "_law_way"] ["_law_state_here", "_law_m", "_law_wide"] (defScope s_l_deed) := ⟨rfl, rfl, rfl, by decide +kernel, rfl, by decide +kernel, by decide +kernel⟩
abbrev s_l_is : Stmt := top 59
theorem sc_l_is : FnScope ["_law_office_here", "_law_m", "_law_desk", "_law_due_here"] ["_law_office_here", "_law_m"] (defScope s_l_is) := ⟨rfl, rfl, rfl, by decide +kernel, rfl, by decide +kernel, by decide +kernel⟩
abbrev s_l_state : Stmt := top 60
theorem sc_l_state : FnScope ["_law_m", "_law_number", "_law_desk"] ["_law_m", "_law_number"] (defScope s_l_state) := ⟨rfl, rfl, rfl, by decide +kernel, rfl, by decide +kernel, by decide +kernel⟩
abbrev s_l_text : Stmt := top 61
theorem sc_l_text : FnScope ["_law_deed_here", "_law_number"] ["_law_deed_here"] (defScope s_l_text) := ⟨rfl, rfl, rfl, by decide +kernel, rfl, by decide +kernel, by decide +kernel⟩
abbrev s_l_odd : Stmt := top 62
theorem sc_l_odd : FnScope ["_law_state_here", "_law_m", "_law_deed_here", "_law_far_here"] ["_law_state_here", "_law_m", "_law_deed_here"] (defScope s_l_odd) := ⟨rfl, rfl, rfl, by decide +kernel, rfl, by decide +kernel, by decide +kernel⟩
abbrev s_l_answer : Stmt := top 63
theorem sc_l_answer : FnScope ["_law_m", "_law_deed_here", "_law_due_here"] ["_law_m", "_law_deed_here"] (defScope s_l_answer) := ⟨rfl, rfl, rfl, by decide +kernel, rfl, by decide +kernel, by decide +kernel⟩
abbrev s_l_no_office : Stmt := top 64
theorem sc_l_no_office : FnScope ["_law_top", "_law_desks"] ["_law_top", "_law_desks"] (defScope s_l_no_office) := ⟨rfl, rfl, rfl, by decide +kernel, rfl, by decide +kernel, by decide +kernel⟩
abbrev s_law : Stmt := top 65
theorem sc_law : FnScope ["_law_script", "_law_state_here", "_law_top", "_law_desks", "_law_m", "_law_book", "_law_due_here", "_law_turn", "_law_deed_here", "_law_handed", "_law_found_here", "_law_number"] ["_law_script"] (defScope s_law) := ⟨rfl, rfl, rfl, by decide +kernel, rfl, by decide +kernel, by decide +kernel⟩
section
variable {X : Cx}
theorem pe_gs {x z : Str} {pos : Pos} (hg : Gl X x) (h : ∃ t, X.mg x = some (.str z t)) (hd : (x == ("__debug__" : Str)) = false := by decide) : PE X (.Name x pos) (tC (.str z)) := by
  obtain ⟨t, e⟩ := h
  exact pe_glob hg e ⟨t, rfl⟩ hd
theorem pe_gi {x : Str} {z : Int} {pos : Pos} (hg : Gl X x) (h : ∃ t, X.mg x = some (.int z t)) (hd : (x == ("__debug__" : Str)) = false := by decide) : PE X (.Name x pos) (tC (.int z)) := by
  obtain ⟨t, e⟩ := h
  exact pe_glob hg e ⟨t, rfl⟩ hd
end
structure Ad where
  C : Addr
  GapError : Addr
  NoOffice : Addr
  NoDesk : Addr
  Stopped : Addr
  NoRoom : Addr
  NoCount : Addr
  NoWord : Addr
  Short : Addr
  NoNumber : Addr
  Twice : Addr
  NotThere : Addr
  NoWorld : Addr
  NoBox : Addr
  Office_init : Addr
  Office_lend : Addr
  Office_report : Addr
  Office_back : Addr
  Office_stop : Addr
  Office_found : Addr
  Office_settle : Addr
  Office_open_numbers : Addr
  Office_rest : Addr
  Office_has_rest : Addr
  Office_least_used : Addr
  Office_numbers : Addr
  Office_state : Addr
  Office_holder : Addr
  Office__check_desk : Addr
  Office__check_going : Addr
  Office__first_of_free : Addr
  Office__let_go : Addr
  Office__use : Addr
  played : Addr
  answer : Addr
  done : Addr
  is_deed : Addr
  are_reported : Addr
  is_number : Addr
  state_of : Addr
  l_start : Addr
  l_drawn : Addr
  l_same : Addr
  l_office : Addr
  l_holder : Addr
  l_lent : Addr
  l_reported : Addr
  l_found : Addr
  l_settled : Addr
  l_due : Addr
  l_does : Addr
  l_told : Addr
  l_words : Addr
  l_deed : Addr
  l_is : Addr
  l_state : Addr
  l_text : Addr
  l_odd : Addr
  l_answer : Addr
  l_no_office : Addr
  law : Addr
  NUMBERS : Addr
structure Fd where
  Office_init : FuncData
  Office_lend : FuncData
  Office_report : FuncData
  Office_back : FuncData
  Office_stop : FuncData
  Office_found : FuncData
  Office_settle : FuncData
  Office_open_numbers : FuncData
  Office_rest : FuncData
  Office_has_rest : FuncData
  Office_least_used : FuncData
  Office_numbers : FuncData
  Office_state : FuncData
  Office_holder : FuncData
  Office__check_desk : FuncData
  Office__check_going : FuncData
  Office__first_of_free : FuncData
  Office__let_go : FuncData
  Office__use : FuncData
  played : FuncData
  answer : FuncData
  done : FuncData
  is_deed : FuncData
  are_reported : FuncData
  is_number : FuncData
  state_of : FuncData
  l_start : FuncData
  l_drawn : FuncData
  l_same : FuncData
  l_office : FuncData
  l_holder : FuncData
  l_lent : FuncData
  l_reported : FuncData
  l_found : FuncData
  l_settled : FuncData
  l_due : FuncData
  l_does : FuncData
  l_told : FuncData
  l_words : FuncData
  l_deed : FuncData
  l_is : FuncData
  l_state : FuncData
  l_text : FuncData
  l_odd : FuncData
  l_answer : FuncData
  l_no_office : FuncData
  law : FuncData
structure XF (K : PySem.W.Frag) (mg : Str → Option Value) (nm : Str) (C : Addr) : Prop where
  x : PySem.W.excIn K C [.type "ValueError", .type "Exception", .type "BaseException", .type "object"] "ValueError.__new__" = true
  g : mg nm = some (.ref C)
  k : PySem.W.keepIn K (.ref C) = true
  b : PySem.W.subIn K (.ref C) (.type "BaseException") = some true
  t : PySem.W.typeIn K (.ref C) = some (.type "type")
structure Txt (K : PySem.W.Frag) (mg : Str → Option Value) (a : Ad) (fd : Fd) : Prop where
  cl : Cls K a.C
  na_states : NoAttr K a.C "_states"
  na_holders : NoAttr K a.C "_holders"
  na_stages : NoAttr K a.C "_stages"
  na_lent : NoAttr K a.C "_lent"
  g_Office : mg "Office" = some (.ref a.C)
  mkO : Mk K a.C a.Office_init
  n_ValueError : mg "ValueError" = none
  n_all : mg "all" = none
  n_bool : mg "bool" = none
  n_dict : mg "dict" = none
  n_int : mg "int" = none
  n_isinstance : mg "isinstance" = none
  n_len : mg "len" = none
  n_list : mg "list" = none
  n_max : mg "max" = none
  n_range : mg "range" = none
  n_sorted : mg "sorted" = none
  n_str : mg "str" = none
  n_tuple : mg "tuple" = none
  n_zip : mg "zip" = none
  g_MOST_NUMBERS : ∃ t, mg "MOST_NUMBERS" = some (.int 400 t)
  g_MOST_DESKS : ∃ t, mg "MOST_DESKS" = some (.int 6 t)
  g_FREE : ∃ t, mg "FREE" = some (.str "free" t)
  g_OPEN : ∃ t, mg "OPEN" = some (.str "open" t)
  g_PAPER : ∃ t, mg "PAPER" = some (.str "paper" t)
  g_SPOILT : ∃ t, mg "SPOILT" = some (.str "spoilt" t)
  g_USED : ∃ t, mg "USED" = some (.str "used" t)
  g_REST : ∃ t, mg "REST" = some (.str "rest" t)
  g_GOING : ∃ t, mg "GOING" = some (.str "going" t)
  g_STOPPED : ∃ t, mg "STOPPED" = some (.str "stopped" t)
  g_SETTLED : ∃ t, mg "SETTLED" = some (.str "settled" t)
  g_BAD_ROW : ∃ t, mg "BAD_ROW" = some (.str "BadRow" t)
  g_DONE : ∃ t, mg "DONE" = some (.str "done" t)
  g_MOST_FIGURES : ∃ t, mg "MOST_FIGURES" = some (.int 60 t)
  g_FIGURES : ∃ t, mg "FIGURES" = some (.str "0123456789" t)
  g_REPORT : ∃ t, mg "REPORT" = some (.str "report" t)
  g_NUMBERS : mg "NUMBERS" = some (.ref a.NUMBERS)
  x_GapError : XF K mg "GapError" a.GapError
  x_NoOffice : XF K mg "NoOffice" a.NoOffice
  x_NoDesk : XF K mg "NoDesk" a.NoDesk
  x_Stopped : XF K mg "Stopped" a.Stopped
  x_NoRoom : XF K mg "NoRoom" a.NoRoom
  x_NoCount : XF K mg "NoCount" a.NoCount
  x_NoWord : XF K mg "NoWord" a.NoWord
  x_Short : XF K mg "Short" a.Short
  x_NoNumber : XF K mg "NoNumber" a.NoNumber
  x_Twice : XF K mg "Twice" a.Twice
  x_NotThere : XF K mg "NotThere" a.NotThere
  x_NoWorld : XF K mg "NoWorld" a.NoWorld
  x_NoBox : XF K mg "NoBox" a.NoBox
  F_Office_init : Fun K "__init__" "Office.__init__" s_Office_init a.Office_init fd.Office_init
  b_Office_init : Binds K fd.Office_init ["self", "top", "desks"] []
  F_Office_lend : Fun K "lend" "Office.lend" s_Office_lend a.Office_lend fd.Office_lend
  b_Office_lend : Binds K fd.Office_lend ["self", "desk", "many"] []
  m_Office_lend : Meth K a.C "lend" a.Office_lend
  F_Office_report : Fun K "report" "Office.report" s_Office_report a.Office_report fd.Office_report
  b_Office_report : Binds K fd.Office_report ["self", "desk", "words"] []
  m_Office_report : Meth K a.C "report" a.Office_report
  F_Office_back : Fun K "back" "Office.back" s_Office_back a.Office_back fd.Office_back
  b_Office_back : Binds K fd.Office_back ["self", "desk"] []
  m_Office_back : Meth K a.C "back" a.Office_back
  F_Office_stop : Fun K "stop" "Office.stop" s_Office_stop a.Office_stop fd.Office_stop
  b_Office_stop : Binds K fd.Office_stop ["self", "desk"] []
  m_Office_stop : Meth K a.C "stop" a.Office_stop
  F_Office_found : Fun K "found" "Office.found" s_Office_found a.Office_found fd.Office_found
  b_Office_found : Binds K fd.Office_found ["self", "number"] []
  m_Office_found : Meth K a.C "found" a.Office_found
  F_Office_settle : Fun K "settle" "Office.settle" s_Office_settle a.Office_settle fd.Office_settle
  b_Office_settle : Binds K fd.Office_settle ["self", "desk", "many"] []
  m_Office_settle : Meth K a.C "settle" a.Office_settle
  F_Office_open_numbers : Fun K "open_numbers" "Office.open_numbers" s_Office_open_numbers a.Office_open_numbers fd.Office_open_numbers
  b_Office_open_numbers : Binds K fd.Office_open_numbers ["self", "desk"] []
  m_Office_open_numbers : Meth K a.C "open_numbers" a.Office_open_numbers
  F_Office_rest : Fun K "rest" "Office.rest" s_Office_rest a.Office_rest fd.Office_rest
  b_Office_rest : Binds K fd.Office_rest ["self", "desk"] []
  m_Office_rest : Meth K a.C "rest" a.Office_rest
  F_Office_has_rest : Fun K "has_rest" "Office.has_rest" s_Office_has_rest a.Office_has_rest fd.Office_has_rest
  b_Office_has_rest : Binds K fd.Office_has_rest ["self", "desk"] []
  m_Office_has_rest : Meth K a.C "has_rest" a.Office_has_rest
  F_Office_least_used : Fun K "least_used" "Office.least_used" s_Office_least_used a.Office_least_used fd.Office_least_used
  b_Office_least_used : Binds K fd.Office_least_used ["self", "desk"] []
  m_Office_least_used : Meth K a.C "least_used" a.Office_least_used
  F_Office_numbers : Fun K "numbers" "Office.numbers" s_Office_numbers a.Office_numbers fd.Office_numbers
  b_Office_numbers : Binds K fd.Office_numbers ["self"] []
  m_Office_numbers : Meth K a.C "numbers" a.Office_numbers
  F_Office_state : Fun K "state" "Office.state" s_Office_state a.Office_state fd.Office_state
  b_Office_state : Binds K fd.Office_state ["self", "number"] []
  m_Office_state : Meth K a.C "state" a.Office_state
  F_Office_holder : Fun K "holder" "Office.holder" s_Office_holder a.Office_holder fd.Office_holder
  b_Office_holder : Binds K fd.Office_holder ["self", "number"] []
  m_Office_holder : Meth K a.C "holder" a.Office_holder
  F_Office__check_desk : Fun K "_check_desk" "Office._check_desk" s_Office__check_desk a.Office__check_desk fd.Office__check_desk
  b_Office__check_desk : Binds K fd.Office__check_desk ["self", "desk"] []
  m_Office__check_desk : Meth K a.C "_check_desk" a.Office__check_desk
  F_Office__check_going : Fun K "_check_going" "Office._check_going" s_Office__check_going a.Office__check_going fd.Office__check_going
  b_Office__check_going : Binds K fd.Office__check_going ["self", "desk"] []
  m_Office__check_going : Meth K a.C "_check_going" a.Office__check_going
  F_Office__first_of_free : Fun K "_first_of_free" "Office._first_of_free" s_Office__first_of_free a.Office__first_of_free fd.Office__first_of_free
  b_Office__first_of_free : Binds K fd.Office__first_of_free ["self", "many"] []
  m_Office__first_of_free : Meth K a.C "_first_of_free" a.Office__first_of_free
  F_Office__let_go : Fun K "_let_go" "Office._let_go" s_Office__let_go a.Office__let_go fd.Office__let_go
  b_Office__let_go : Binds K fd.Office__let_go ["self", "number", "state"] []
  m_Office__let_go : Meth K a.C "_let_go" a.Office__let_go
  F_Office__use : Fun K "_use" "Office._use" s_Office__use a.Office__use fd.Office__use
  b_Office__use : Binds K fd.Office__use ["self", "numbers"] []
  m_Office__use : Meth K a.C "_use" a.Office__use
  F_played : Fun K "played" "played" s_played a.played fd.played
  b_played : Binds K fd.played ["top", "desks", "book"] []
  g_played : mg "played" = some (.ref a.played)
  F_answer : Fun K "_answer" "_answer" s_answer a.answer fd.answer
  b_answer : Binds K fd.answer ["office", "words"] []
  g_answer : mg "_answer" = some (.ref a.answer)
  F_done : Fun K "_done" "_done" s_done a.done fd.done
  b_done : Binds K fd.done ["office", "words"] []
  g_done : mg "_done" = some (.ref a.done)
  F_is_deed : Fun K "_is_deed" "_is_deed" s_is_deed a.is_deed fd.is_deed
  b_is_deed : Binds K fd.is_deed ["words"] []
  g_is_deed : mg "_is_deed" = some (.ref a.is_deed)
  F_are_reported : Fun K "_are_reported" "_are_reported" s_are_reported a.are_reported fd.are_reported
  b_are_reported : Binds K fd.are_reported ["words"] []
  g_are_reported : mg "_are_reported" = some (.ref a.are_reported)
  F_is_number : Fun K "_is_number" "_is_number" s_is_number a.is_number fd.is_number
  b_is_number : Binds K fd.is_number ["word"] []
  g_is_number : mg "_is_number" = some (.ref a.is_number)
  F_state_of : Fun K "state_of" "state_of" s_state_of a.state_of fd.state_of
  b_state_of : Binds K fd.state_of ["office", "number"] []
  g_state_of : mg "state_of" = some (.ref a.state_of)
  F_l_start : Fun K "_law_start" "_law_start" s_l_start a.l_start fd.l_start
  b_l_start : Binds K fd.l_start ["_law_script"] []
  g_l_start : mg "_law_start" = some (.ref a.l_start)
  F_l_drawn : Fun K "_law_drawn" "_law_drawn" s_l_drawn a.l_drawn fd.l_drawn
  b_l_drawn : Binds K fd.l_drawn ["_law_state_here", "_law_many"] []
  g_l_drawn : mg "_law_drawn" = some (.ref a.l_drawn)
  F_l_same : Fun K "_law_same" "_law_same" s_l_same a.l_same fd.l_same
  b_l_same : Binds K fd.l_same ["_law_found_here", "_law_due_here"] []
  g_l_same : mg "_law_same" = some (.ref a.l_same)
  F_l_office : Fun K "_law_office" "_law_office" s_l_office a.l_office fd.l_office
  b_l_office : Binds K fd.l_office ["_law_top", "_law_desks"] []
  g_l_office : mg "_law_office" = some (.ref a.l_office)
  F_l_holder : Fun K "_law_holder" "_law_holder" s_l_holder a.l_holder fd.l_holder
  b_l_holder : Binds K fd.l_holder ["_law_m", "_law_number"] []
  g_l_holder : mg "_law_holder" = some (.ref a.l_holder)
  F_l_lent : Fun K "_law_lent" "_law_lent" s_l_lent a.l_lent fd.l_lent
  b_l_lent : Binds K fd.l_lent ["_law_m", "_law_desk", "_law_many"] []
  g_l_lent : mg "_law_lent" = some (.ref a.l_lent)
  F_l_reported : Fun K "_law_reported" "_law_reported" s_l_reported a.l_reported fd.l_reported
  b_l_reported : Binds K fd.l_reported ["_law_m", "_law_desk", "_law_words_here"] []
  g_l_reported : mg "_law_reported" = some (.ref a.l_reported)
  F_l_found : Fun K "_law_found" "_law_found" s_l_found a.l_found fd.l_found
  b_l_found : Binds K fd.l_found ["_law_m", "_law_number"] []
  g_l_found : mg "_law_found" = some (.ref a.l_found)
  F_l_settled : Fun K "_law_settled" "_law_settled" s_l_settled a.l_settled fd.l_settled
  b_l_settled : Binds K fd.l_settled ["_law_m", "_law_desk", "_law_many"] []
  g_l_settled : mg "_law_settled" = some (.ref a.l_settled)
  F_l_due : Fun K "_law_due" "_law_due" s_l_due a.l_due fd.l_due
  b_l_due : Binds K fd.l_due ["_law_m", "_law_deed_here"] []
  g_l_due : mg "_law_due" = some (.ref a.l_due)
  F_l_does : Fun K "_law_does" "_law_does" s_l_does a.l_does fd.l_does
  b_l_does : Binds K fd.l_does ["_law_office_here", "_law_deed_here"] []
  g_l_does : mg "_law_does" = some (.ref a.l_does)
  F_l_told : Fun K "_law_told" "_law_told" s_l_told a.l_told fd.l_told
  b_l_told : Binds K fd.l_told ["_law_office_here", "_law_deed_here"] []
  g_l_told : mg "_law_told" = some (.ref a.l_told)
  F_l_words : Fun K "_law_words" "_law_words" s_l_words a.l_words fd.l_words
  b_l_words : Binds K fd.l_words ["_law_state_here", "_law_many"] []
  g_l_words : mg "_law_words" = some (.ref a.l_words)
  F_l_deed : Fun K "_law_deed" "_law_deed" s_l_deed a.l_deed fd.l_deed
  b_l_deed : Binds K fd.l_deed ["_law_state_here", "_law_m", "_law_wide"] []
  g_l_deed : mg "_law_deed" = some (.ref a.l_deed)
  F_l_is : Fun K "_law_is" "_law_is" s_l_is a.l_is fd.l_is
  b_l_is : Binds K fd.l_is ["_law_office_here", "_law_m"] []
  g_l_is : mg "_law_is" = some (.ref a.l_is)
  F_l_state : Fun K "_law_state" "_law_state" s_l_state a.l_state fd.l_state
  b_l_state : Binds K fd.l_state ["_law_m", "_law_number"] []
  g_l_state : mg "_law_state" = some (.ref a.l_state)
  F_l_text : Fun K "_law_text" "_law_text" s_l_text a.l_text fd.l_text
  b_l_text : Binds K fd.l_text ["_law_deed_here"] []
  g_l_text : mg "_law_text" = some (.ref a.l_text)
  F_l_odd : Fun K "_law_odd" "_law_odd" s_l_odd a.l_odd fd.l_odd
  b_l_odd : Binds K fd.l_odd ["_law_state_here", "_law_m", "_law_deed_here"] []
  g_l_odd : mg "_law_odd" = some (.ref a.l_odd)
  F_l_answer : Fun K "_law_answer" "_law_answer" s_l_answer a.l_answer fd.l_answer
  b_l_answer : Binds K fd.l_answer ["_law_m", "_law_deed_here"] []
  g_l_answer : mg "_law_answer" = some (.ref a.l_answer)
  F_l_no_office : Fun K "_law_no_office" "_law_no_office" s_l_no_office a.l_no_office fd.l_no_office
  b_l_no_office : Binds K fd.l_no_office ["_law_top", "_law_desks"] []
  g_l_no_office : mg "_law_no_office" = some (.ref a.l_no_office)
  F_law : Fun K "law" "law" s_law a.law fd.law
  b_law : Binds K fd.law ["_law_script"] []
  g_law : mg "law" = some (.ref a.law)
section
variable {P : Program} {w : World} {K : PySem.W.Frag} {mg : Str → Option Value} {base : Heap} {N : List Str} {q : Str} {sc : Scope} {f : Addr} {cdv : Value} {A : Around} {outer : List Env} {s : Shared} {H : Hp} {E : XK}
theorem takesU : Takes (cxOf (L2.CX P w) P w K mg base N q sc f cdv A outer s H E) (fun cls d _ H' => E cls d H') := takes_of rfl rfl rfl rfl
theorem passU : Passes (L2.CX P w) (cxOf (L2.CX P w) P w K mg base N q sc f cdv A outer s H E) E := passes_call takesU (fun _ _ _ _ h => h)
theorem passesU : PassesOwn (model P w) (cxOf (L2.CX P w) P w K mg base N q sc f cdv A outer s H E).A (cxOf (L2.CX P w) P w K mg base N q sc f cdv A outer s H E).env (cxOf (L2.CX P w) P w K mg base N q sc f cdv A outer s H E).xe := passes_of rfl
end
/-! ### the office as it stands in the heap -/
structure Fp where
  p : Addr
  dx : Addr
  dS : Addr
  dH : Addr
  aS : Addr
  aL : Addr
  ls : List Addr
def Fp.foot (F : Fp) : List Addr := F.p :: F.dS :: F.dH :: F.aS :: F.aL :: F.ls
def ofl (F : Fp) : List (Str × V) := putF "_lent" (.ref F.aL) (putF "_stages" (.ref F.aS) (putF "_holders" (.ref F.dH) (putF "_states" (.ref F.dS) [])))
theorem nn1 : ¬ (("_states" : Str) = "_lent") := by decide +kernel
theorem nn2 : ¬ (("_states" : Str) = "_stages") := by decide +kernel
theorem nn3 : ¬ (("_states" : Str) = "_holders") := by decide +kernel
theorem nn4 : ¬ (("_holders" : Str) = "_lent") := by decide +kernel
theorem nn5 : ¬ (("_holders" : Str) = "_stages") := by decide +kernel
theorem nn6 : ¬ (("_stages" : Str) = "_lent") := by decide +kernel
theorem ofl_states (F : Fp) : (ofl F).lookup ("_states" : Str) = some (.ref F.dS) := by
  unfold ofl
  rw [lookup_putF, if_neg nn1, lookup_putF, if_neg nn2, lookup_putF, if_neg nn3, lookup_putF, if_pos rfl]
theorem ofl_holders (F : Fp) : (ofl F).lookup ("_holders" : Str) = some (.ref F.dH) := by
  unfold ofl
  rw [lookup_putF, if_neg nn4, lookup_putF, if_neg nn5, lookup_putF, if_pos rfl]
theorem ofl_stages (F : Fp) : (ofl F).lookup ("_stages" : Str) = some (.ref F.aS) := by
  unfold ofl
  rw [lookup_putF, if_neg nn6, lookup_putF, if_pos rfl]
theorem ofl_lent (F : Fp) : (ofl F).lookup ("_lent" : Str) = some (.ref F.aL) := by
  unfold ofl
  rw [lookup_putF, if_pos rfl]
theorem ofl_no (F : Fp) {m : Str} (h1 : ¬ m = "_lent") (h2 : ¬ m = "_stages") (h3 : ¬ m = "_holders") (h4 : ¬ m = "_states") : (ofl F).lookup m = none := by
  unfold ofl
  rw [lookup_putF, if_neg h1, lookup_putF, if_neg h2, lookup_putF, if_neg h3, lookup_putF, if_neg h4]
  all_goals rfl
structure Off (a : Ad) (H : Hp) (F : Fp) (o : Of) : Prop where
  ob : H F.p = some (.ins a.C F.dx (ofl F))
  st : H F.dS = some (.dK (stK o.top o.st))
  ho : ∃ hk, H F.dH = some (.dK hk) ∧ HolK hk o
  sg : H F.aS = some (.lst (o.sg.map V.str))
  le : H F.aL = some (.lst (F.ls.map V.ref))
  ll : F.ls.length = o.le.length
  each : ∀ (i : Nat) (l : Addr) (ns : List Int), F.ls[i]? = some l → o.le[i]? = some ns → H l = some (.lst (ns.map V.int))
  nd : F.foot.Nodup
theorem Off.stay {a : Ad} {H H' : Hp} {F : Fp} {o : Of} (h : Off a H F o) (k : ∀ c ∈ F.foot, ∀ u, H c = some u → H' c = some u) : Off a H' F o := by
  obtain ⟨h1, h2, ⟨hk, h3, hh⟩, h4, h5, h6, h7, h8⟩ := h
  refine ⟨k _ (by simp [Fp.foot]) _ h1, k _ (by simp [Fp.foot]) _ h2, ⟨hk, k _ (by simp [Fp.foot]) _ h3, hh⟩, k _ (by simp [Fp.foot]) _ h4, k _ (by simp [Fp.foot]) _ h5, h6, fun i l ns e1 e2 => ?_, h8⟩
  have hm : l ∈ F.ls := List.mem_of_getElem? e1
  exact k _ (by simp [Fp.foot, hm]) _ (h7 i l ns e1 e2)
/-! ### readings of the fields -/
section
variable {K : PySem.W.Frag} {mg : Str → Option Value} {a : Ad} {fd : Fd} {H : Hp} {F : Fp} {o : Of} {σ : L2.St} {Q : VK} {i j : Nat}
theorem rd_states (T : Txt K mg a fd) (O : Off a H F o) (h0 : σ[i]? = some (some (.ref F.p))) (h : Q (.ref F.dS) H) : tFld K (tVar i) "_states" σ H Q :=
  ⟨_, h0, F.p, a.C, F.dx, _, _, rfl, O.ob, T.cl, T.na_states, ofl_states F, h⟩
theorem rd_holders (T : Txt K mg a fd) (O : Off a H F o) (h0 : σ[i]? = some (some (.ref F.p))) (h : Q (.ref F.dH) H) : tFld K (tVar i) "_holders" σ H Q :=
  ⟨_, h0, F.p, a.C, F.dx, _, _, rfl, O.ob, T.cl, T.na_holders, ofl_holders F, h⟩
theorem rd_stages (T : Txt K mg a fd) (O : Off a H F o) (h0 : σ[i]? = some (some (.ref F.p))) (h : Q (.ref F.aS) H) : tFld K (tVar i) "_stages" σ H Q :=
  ⟨_, h0, F.p, a.C, F.dx, _, _, rfl, O.ob, T.cl, T.na_stages, ofl_stages F, h⟩
theorem rd_lent (T : Txt K mg a fd) (O : Off a H F o) (h0 : σ[i]? = some (some (.ref F.p))) (h : Q (.ref F.aL) H) : tFld K (tVar i) "_lent" σ H Q :=
  ⟨_, h0, F.p, a.C, F.dx, _, _, rfl, O.ob, T.cl, T.na_lent, ofl_lent F, h⟩
/-- self._states[number] -/
theorem rd_state (T : Txt K mg a fd) (O : Off a H F o) (h0 : σ[i]? = some (some (.ref F.p))) {n : Int} (h1 : σ[j]? = some (some (.int n))) (b : 1 ≤ n ∧ n ≤ (o.top : Int)) (h : Q (.str (o.st n)) H) : tDGet (tFld K (tVar i) "_states") (tVar j) σ H Q := by
  refine rd_states T O h0 ⟨_, h1, F.dS, _, rfl, ?_, h⟩
  have e := DGet.k (k := Sum.inl n) O.st
  rw [valV_stK, if_pos b] at e
  exact e
/-- self._stages[desk] -/
theorem rd_stage (T : Txt K mg a fd) (O : Off a H F o) (h0 : σ[i]? = some (some (.ref F.p))) {d : Nat} (h1 : σ[j]? = some (some (.int (d : Int)))) {z : Str} (b : o.sg[d]? = some z) (h : Q (.str z) H) : tOp (rIxL K) (tFld K (tVar i) "_stages") (tVar j) σ H Q := by
  refine rd_stages T O h0 ⟨_, h1, F.aS, _, _, _, rfl, rfl, SqL.of O.sg, atI_nat ?_, h⟩
  rw [List.getElem?_map, b]
  rfl
/-- self._lent[desk] -/
theorem rd_lent1 (T : Txt K mg a fd) (O : Off a H F o) (h0 : σ[i]? = some (some (.ref F.p))) {d : Nat} (h1 : σ[j]? = some (some (.int (d : Int)))) {l : Addr} (b : F.ls[d]? = some l) (h : Q (.ref l) H) : tOp (rIxL K) (tFld K (tVar i) "_lent") (tVar j) σ H Q := by
  refine rd_lent T O h0 ⟨_, h1, F.aL, _, _, _, rfl, rfl, SqL.of O.le, atI_nat ?_, h⟩
  rw [List.getElem?_map, b]
  rfl
end
section
variable {P : Program} {w : World} {K : PySem.W.Frag} {mg : Str → Option Value} {base : Heap} {a : Ad} {fd : Fd}
/-! ### has_rest, numbers, state, holder -/
def spHasRest (a : Ad) : Sp := fun vs H Q _ => ∃ (F : Fp) (o : Of) (d : Nat) (z : Str), vs = [.ref F.p, .int (d : Int)] ∧ Off a H F o ∧ o.sg[d]? = some z ∧ Q (.bl (decide (z = "stopped"))) H
theorem ok_Office_has_rest (T : Txt K mg a fd) : FnOk P w K mg base CX0 1 a.Office_has_rest fd.Office_has_rest ["self", "desk"] (spHasRest a) := by
  refine T.F_Office_has_rest.ok sc_Office_has_rest (fun vs H Q E h => ?_) (fun cdv A outer s H vs Q E hr h => ?_)
  · obtain ⟨F, o, d, z, rfl, _⟩ := h
    rfl
  · obtain ⟨F, o, d, z, rfl, O, hz, k⟩ := h
    have hu := hu_of hr
    refine ⟨_, (pss_one (ps_ret (pe_cmpR op_eq (pe_ix ix_list (pe_fld (pv 0) rfl) (pv 1) (fun _ _ => rfl)) (pe_gs (by rfl) T.g_STOPPED) (nomark _)))), ?_⟩
    refine rd_stage T O rfl rfl hz ⟨rfl, ?_⟩
    have e : decide (V.str z = V.str "stopped") = decide (z = "stopped") := by
      by_cases c : z = "stopped"
      · rw [decide_eq_true c, decide_eq_true (by rw [c])]
      · rw [decide_eq_false c, decide_eq_false (fun q => c (by injection q))]
    show Q (V.bl (decide (V.str z = V.str "stopped"))) H
    rw [e]
    exact k
def spNumbers (a : Ad) : Sp := fun vs H Q _ => ∃ (F : Fp) (o : Of), vs = [.ref F.p] ∧ Off a H F o ∧ ∀ p, H p = none → Q (.ref p) (upd H p (.lst ((List.range o.top).map fun (i : Nat) => V.int ((i : Int) + 1))))
theorem ok_Office_numbers (T : Txt K mg a fd) : FnOk P w K mg base CX0 1 a.Office_numbers fd.Office_numbers ["self"] (spNumbers a) := by
  refine T.F_Office_numbers.ok sc_Office_numbers (fun vs H Q E h => ?_) (fun cdv A outer s H vs Q E hr h => ?_)
  · obtain ⟨F, o, rfl, _⟩ := h
    rfl
  · obtain ⟨F, o, rfl, O, k⟩ := h
    refine ⟨_, (pss_one (ps_ret (pe_callTy (call_listD rfl) (by rfl) T.n_list (by decide +kernel) (pa_cons (pe_fld (pv 0) rfl) pa_nil)))), ?_⟩
    refine rd_states T O rfl ⟨F.dS, _, rfl, .inl O.st, fun p hp => ?_⟩
    rw [stK_keys]
    exact k p hp
def spHolder (a : Ad) : Sp := fun vs H Q _ => ∃ (F : Fp) (o : Of) (n : Int), vs = [.ref F.p, .int n] ∧ Off a H F o ∧ Q (match o.ho n with | some d => V.int d | none => .non) H
theorem ok_Office_holder (T : Txt K mg a fd) : FnOk P w K mg base CX0 1 a.Office_holder fd.Office_holder ["self", "number"] (spHolder a) := by
  refine T.F_Office_holder.ok sc_Office_holder (fun vs H Q E h => ?_) (fun cdv A outer s H vs Q E hr h => ?_)
  · obtain ⟨F, o, n, rfl, _⟩ := h
    rfl
  · obtain ⟨F, o, n, rfl, O, k⟩ := h
    have hu := hu_of hr
    obtain ⟨hk, h3, hh⟩ := O.ho
    refine ⟨_, (pss_one (ps_ret (pe_dget1 hu (pe_fld (pv 0) rfl) (pv 1) ⟨rfl, rfl, rfl, rfl⟩))), ?_⟩
    refine ⟨_, rfl, F.p, a.C, F.dx, _, _, rfl, O.ob, T.cl, T.na_holders, ofl_holders F, ?_⟩
    refine ⟨F.dH, rfl, .inl ⟨hk, .inl h3⟩, _, rfl, _, DGet.k (k := Sum.inl n) h3, ?_⟩
    rw [hh.at_ n]
    cases e : o.ho n with
    | none => rw [e] at k; exact k
    | some d => rw [e] at k; exact k
/-! ### messages -/
section
variable {ts : List TE} {acc : Str} {σ : L2.St} {H : Hp} {Q : Str → Hp → Prop}
theorem js_s {z : Str} {b : Nat} (ha : acc.length ≤ b) (hl : z.length ≤ 100) (hb : b ≤ 10000) (k : ∀ acc' : Str, acc'.length ≤ b + 100 → tJs ts acc' σ H Q) : tJs (tC (.str z) :: ts) acc σ H Q := by
  have e : (acc ++ z).length ≤ b + 100 := by
    rw [Str.length_append]
    omega
  exact ⟨z, rfl, Nat.le_trans e (by rw [sizeLine_eq]; omega), k _ e⟩
theorem js_f {i : Nat} {n : Int} {b : Nat} (hs : σ[i]? = some (some (.int n))) (hn : n.natAbs.log2 < 1920) (ha : acc.length ≤ b) (hb : b ≤ 10000) (k : ∀ acc' : Str, acc'.length ≤ b + 1921 → tJs ts acc' σ H Q) : tJs (tFmt (tVar i) :: ts) acc σ H Q := by
  have h1 : (Str.ofString (toString n)).length ≤ 1921 := PyProof.Rows.int_text_len_1921 hn
  have e : (acc ++ Str.ofString (toString n)).length ≤ b + 1921 := by
    rw [Str.length_append]
    omega
  exact ⟨_, hs, .inr ⟨n, rfl, hn, _, rfl, Nat.le_trans e (by rw [sizeLine_eq]; omega), k _ e⟩⟩
end
theorem deqT {z y : Str} (h : z = y) : decide (V.str z = V.str y) = true := decide_eq_true (by rw [h])
theorem deqF {z y : Str} (h : ¬ z = y) : decide (V.str z = V.str y) = false := decide_eq_false fun q => h (by injection q)
theorem dneT {z y : Str} (h : ¬ z = y) : (!decide (V.str z = V.str y)) = true := by rw [deqF h]; rfl
theorem dneF {z y : Str} (h : z = y) : (!decide (V.str z = V.str y)) = false := by rw [deqT h]; rfl
theorem one_le : ∀ v : V, [v].length ≤ sizeLine := fun v => by
  rw [sizeLine_eq]
  exact (by decide : 1 ≤ 16777216)
/-! ### state, the desks' checks -/
def spState (a : Ad) : Sp := fun vs H Q E => ∃ (F : Fp) (o : Of) (n : Int), vs = [.ref F.p, .int n] ∧ Off a H F o ∧ n.natAbs.log2 < 1920 ∧ (¬ (1 ≤ n ∧ n ≤ (o.top : Int)) → E (.ref a.NoNumber) none H) ∧ (1 ≤ n ∧ n ≤ (o.top : Int) → Q (.str (o.st n)) H)
theorem ok_Office_state (T : Txt K mg a fd) : FnOk P w K mg base (L2.CX P w) 1 a.Office_state fd.Office_state ["self", "number"] (spState a) := by
  refine T.F_Office_state.okX sc_Office_state (fun vs H Q E h => ?_) (fun cdv A outer s H vs Q E hr h => ?_)
  · obtain ⟨F, o, n, rfl, _⟩ := h
    rfl
  · obtain ⟨F, o, n, rfl, O, hn, k1, k2⟩ := h
    have hu := hu_of hr
    refine ⟨_, (pss_cons (ps_if (pt_cmp (pc_dnotin hu (pv 1) (pe_fld (pv 0) rfl))) (pss_one (ps_raise rfl takesU (pmk_ownA PySem.F.excBase_ValueError T.x_NoNumber.x T.x_NoNumber.g T.x_NoNumber.k (raises_own T.x_NoNumber.b T.x_NoNumber.t) (by rfl) (pa_cons (pe_joined (.cons pe_str (.cons (pe_fmt (pv 1)) PJ.nil))) pa_nil)))) pss_nil)
    (pss_one (ps_ret (pe_dget hu (pe_fld (pv 0) rfl) (pv 1) (fun _ _ => rfl))))), ?_⟩
    refine ⟨_, rfl, ?_⟩
    refine rd_states T O rfl ⟨F.dS, _, rfl, DGet.k (k := Sum.inl n) O.st, _, rfl, ?_⟩
    rw [valV_stK]
    by_cases c : 1 ≤ n ∧ n ≤ (o.top : Int)
    · rw [if_pos c]
      refine iteF ?_
      exact rd_state T O rfl rfl c (k2 c)
    · rw [if_neg c]
      refine iteT ?_
      exact js_s (b := 0) (Nat.le_refl _) (by decide +kernel) (by omega) fun _ ha => js_f rfl hn ha (by omega) fun _ _ => ⟨one_le _, k1 c⟩
def spCheck (a : Ad) : Sp := fun vs H Q E => ∃ (F : Fp) (o : Of) (d : Int), vs = [.ref F.p, .int d] ∧ Off a H F o ∧ d.natAbs.log2 < 1920 ∧ (¬ (0 ≤ d ∧ d < (o.sg.length : Int)) → E (.ref a.NoDesk) none H) ∧ (0 ≤ d ∧ d < (o.sg.length : Int) → Q .non H)
theorem ok_Office__check_desk (T : Txt K mg a fd) : FnOk P w K mg base (L2.CX P w) 1 a.Office__check_desk fd.Office__check_desk ["self", "desk"] (spCheck a) := by
  refine T.F_Office__check_desk.okX sc_Office__check_desk (fun vs H Q E h => ?_) (fun cdv A outer s H vs Q E hr h => ?_)
  · obtain ⟨F, o, d, rfl, _⟩ := h
    rfl
  · obtain ⟨F, o, d, rfl, O, hn, k1, k2⟩ := h
    have hu := hu_of hr
    refine ⟨_, (pss_one (ps_if (PW.pt (pw_or (pt_cmpR op_lt (pv 1) pe_int (nomark _)) (pw_or1 (pt_cmpR op_ge (pv 1) (pe_callB call_len_seq (by rfl) T.n_len PySem.boot_len (pa_cons (pe_fld (pv 0) rfl) pa_nil)) (nomark _))))) (pss_one (ps_raise rfl takesU (pmk_ownA PySem.F.excBase_ValueError T.x_NoDesk.x T.x_NoDesk.g T.x_NoDesk.k (raises_own T.x_NoDesk.b T.x_NoDesk.t) (by rfl) (pa_cons (pe_joined (.cons pe_str (.cons (pe_fmt (pv 1)) PJ.nil))) pa_nil)))) pss_nil)), ?_⟩
    refine ⟨_, rfl, _, _, rfl, rfl, _, rfl, ?_⟩
    by_cases c : d < 0
    · rw [decide_eq_true c]
      refine iteT (iteT ?_)
      exact js_s (b := 0) (Nat.le_refl _) (by decide +kernel) (by omega) fun _ ha => js_f rfl hn ha (by omega) fun _ _ => ⟨one_le _, k1 (by omega)⟩
    · rw [decide_eq_false c]
      refine iteF ?_
      refine ⟨_, rfl, ?_⟩
      refine rd_stages T O rfl ⟨F.aS, _, rfl, .inl (SqL.of O.sg), _, _, rfl, rfl, _, rfl, ?_⟩
      rw [List.length_map]
      by_cases c2 : (o.sg.length : Int) ≤ d
      · rw [decide_eq_true c2]
        refine iteT ?_
        exact js_s (b := 0) (Nat.le_refl _) (by decide +kernel) (by omega) fun _ ha => js_f rfl hn ha (by omega) fun _ _ => ⟨one_le _, k1 (by omega)⟩
      · rw [decide_eq_false c2]
        refine iteF ?_
        exact k2 (by omega)
def spGoing (a : Ad) : Sp := fun vs H Q E => ∃ (F : Fp) (o : Of) (d : Int), vs = [.ref F.p, .int d] ∧ Off a H F o ∧ d.natAbs.log2 < 1920 ∧ (¬ (0 ≤ d ∧ d < (o.sg.length : Int)) → E (.ref a.NoDesk) none H) ∧
  ∀ (i : Nat) (z : Str), d = (i : Int) → o.sg[i]? = some z → (z ≠ "going" → E (.ref a.Stopped) none H) ∧ (z = "going" → Q .non H)
theorem ok_Office__check_going (T : Txt K mg a fd) : FnOk P w K mg base (L2.CX P w) 2 a.Office__check_going fd.Office__check_going ["self", "desk"] (spGoing a) := by
  have G_Office__check_desk := ok_Office__check_desk (P := P) (w := w) (base := base) T
  refine T.F_Office__check_going.okX sc_Office__check_going (fun vs H Q E h => ?_) (fun cdv A outer s H vs Q E hr h => ?_)
  · obtain ⟨F, o, d, rfl, _⟩ := h
    rfl
  · obtain ⟨F, o, d, rfl, O, hn, k1, k2⟩ := h
    have hu := hu_of hr
    refine ⟨_, (pss_cons (ps_expr (pe_meth (pv 0) T.cl T.m_Office__check_desk G_Office__check_desk (hr.mono (by decide)) T.b_Office__check_desk .nil passU (pa_cons (pv 1) pa_nil)))
    (pss_one (ps_if (pt_cmpR op_ne (pe_ix ix_list (pe_fld (pv 0) rfl) (pv 1) (fun _ _ => rfl)) (pe_gs (by rfl) T.g_GOING) (nomark _)) (pss_one (ps_raise rfl takesU (pmk_ownA PySem.F.excBase_ValueError T.x_Stopped.x T.x_Stopped.g T.x_Stopped.k (raises_own T.x_Stopped.b T.x_Stopped.t) (by rfl) (pa_cons (pe_joined (.cons pe_str (.cons (pe_fmt (pv 1)) (.cons pe_str PJ.nil)))) pa_nil)))) pss_nil))), ?_⟩
    refine ⟨_, rfl, F.p, F.dx, _, rfl, O.ob, ofl_no F (by decide +kernel) (by decide +kernel) (by decide +kernel) (by decide +kernel), _, rfl, F, o, d, rfl, O, hn, k1, fun c => ?_⟩
    obtain ⟨i, rfl⟩ := Int.eq_ofNat_of_zero_le c.1
    have hi : i < o.sg.length := by omega
    have e : o.sg[i]? = some o.sg[i] := List.getElem?_eq_getElem hi
    refine rd_stage T O rfl rfl e ?_
    refine ⟨rfl, _, rfl, ?_⟩
    obtain ⟨k3, k4⟩ := k2 i _ rfl e
    by_cases c3 : o.sg[i] = "going"
    · rw [dneF c3]
      exact iteF (k4 c3)
    · rw [dneT c3]
      refine iteT ?_
      exact js_s (b := 0) (Nat.le_refl _) (by decide +kernel) (by omega) fun _ ha => js_f rfl hn ha (by omega) fun _ ha => js_s ha (by decide +kernel) (by omega) fun _ _ => ⟨one_le _, k3 c3⟩
end
end Nu
namespace Nu
open PySem PySem.Spec PyProof.Rows L2
structure Ne (F : Fp) : Prop where
  p_dS : F.p ≠ F.dS
  p_dH : F.p ≠ F.dH
  p_aS : F.p ≠ F.aS
  p_aL : F.p ≠ F.aL
  p_ls : F.p ∉ F.ls
  dS_dH : F.dS ≠ F.dH
  dS_aS : F.dS ≠ F.aS
  dS_aL : F.dS ≠ F.aL
  dS_ls : F.dS ∉ F.ls
  dH_aS : F.dH ≠ F.aS
  dH_aL : F.dH ≠ F.aL
  dH_ls : F.dH ∉ F.ls
  aS_aL : F.aS ≠ F.aL
  aS_ls : F.aS ∉ F.ls
  aL_ls : F.aL ∉ F.ls
  ls : F.ls.Nodup
theorem Off.ne {a : Ad} {H : Hp} {F : Fp} {o : Of} (O : Off a H F o) : Ne F := by
  have h := O.nd
  unfold Fp.foot at h
  simp only [List.nodup_cons, List.mem_cons, not_or] at h
  obtain ⟨⟨h1, h2, h3, h4, h5⟩, ⟨h6, h7, h8, h9⟩, ⟨h10, h11, h12⟩, ⟨h13, h14⟩, h15, h16⟩ := h
  exact ⟨h1, h2, h3, h4, h5, h6, h7, h8, h9, h10, h11, h12, h13, h14, h15, h16⟩
section
variable {a : Ad} {H : Hp} {F : Fp} {o : Of}
theorem ls_ne {F : Fp} {c l : Addr} {i : Nat} (h : c ∉ F.ls) (e : F.ls[i]? = some l) : l ≠ c := fun z => h (by rw [← z]; exact List.mem_of_getElem? e)
theorem Off.setSt (O : Off a H F o) (st' : Int → Str) : Off a (upd H F.dS (.dK (stK o.top st'))) F { o with st := st' } := by
  have n := O.ne
  obtain ⟨hk, h3, hh⟩ := O.ho
  refine ⟨by rw [upd_ne n.p_dS]; exact O.ob, upd_same, ⟨hk, by rw [upd_ne n.dS_dH.symm]; exact h3, ⟨hh.nd, hh.at_, hh.tx⟩⟩, by rw [upd_ne n.dS_aS.symm]; exact O.sg, by rw [upd_ne n.dS_aL.symm]; exact O.le, O.ll, fun i l ns e1 e2 => ?_, O.nd⟩
  rw [upd_ne (ls_ne n.dS_ls e1)]
  exact O.each i l ns e1 e2
theorem Off.setHo (O : Off a H F o) (ho' : Int → Option Int) {hk : List (Key × V)} (hh : HolK hk { o with ho := ho' }) : Off a (upd H F.dH (.dK hk)) F { o with ho := ho' } := by
  have n := O.ne
  refine ⟨by rw [upd_ne n.p_dH]; exact O.ob, by rw [upd_ne n.dS_dH]; exact O.st, ⟨hk, upd_same, hh⟩, by rw [upd_ne n.dH_aS.symm]; exact O.sg, by rw [upd_ne n.dH_aL.symm]; exact O.le, O.ll, fun i l ns e1 e2 => ?_, O.nd⟩
  rw [upd_ne (ls_ne n.dH_ls e1)]
  exact O.each i l ns e1 e2
theorem Off.setSg (O : Off a H F o) (sg' : List Str) : Off a (upd H F.aS (.lst (sg'.map V.str))) F { o with sg := sg' } := by
  have n := O.ne
  obtain ⟨hk, h3, hh⟩ := O.ho
  refine ⟨by rw [upd_ne n.p_aS]; exact O.ob, by rw [upd_ne n.dS_aS]; exact O.st, ⟨hk, by rw [upd_ne n.dH_aS]; exact h3, ⟨hh.nd, hh.at_, hh.tx⟩⟩, upd_same, by rw [upd_ne n.aS_aL.symm]; exact O.le, O.ll, fun i l ns e1 e2 => ?_, O.nd⟩
  rw [upd_ne (ls_ne n.aS_ls e1)]
  exact O.each i l ns e1 e2
theorem nodup_at {l : List Addr} (h : l.Nodup) {i j : Nat} {x : Addr} (h1 : l[i]? = some x) (h2 : l[j]? = some x) : i = j := by
  exact (List.getElem?_inj (List.getElem?_eq_some_iff.mp h1).1 h).mp (h1.trans h2.symm)
/-- the list of a desk changed in place -/
theorem Off.setLe (O : Off a H F o) {d : Nat} {l : Addr} (hd : F.ls[d]? = some l) (ns' : List Int) : Off a (upd H l (.lst (ns'.map V.int))) F { o with le := o.le.set d ns' } := by
  have n := O.ne
  obtain ⟨hk, h3, hh⟩ := O.ho
  have nl : ∀ c, c ∉ F.ls → c ≠ l := fun c hc z => hc (by rw [z]; exact List.mem_of_getElem? hd)
  have hdl : d < o.le.length := by
    rw [← O.ll]
    exact (List.getElem?_eq_some_iff.mp hd).1
  refine ⟨by rw [upd_ne (nl _ n.p_ls)]; exact O.ob, by rw [upd_ne (nl _ n.dS_ls)]; exact O.st, ⟨hk, by rw [upd_ne (nl _ n.dH_ls)]; exact h3, ⟨hh.nd, hh.at_, hh.tx⟩⟩, by rw [upd_ne (nl _ n.aS_ls)]; exact O.sg, by rw [upd_ne (nl _ n.aL_ls)]; exact O.le, by rw [List.length_set]; exact O.ll, fun i l' ns e1 e2 => ?_, O.nd⟩
  by_cases c : l' = l
  · subst c
    have ei := nodup_at n.ls e1 hd
    subst ei
    rw [List.getElem?_set_self hdl] at e2
    cases e2
    exact upd_same
  · rw [upd_ne c]
    have ei : d ≠ i := fun z => by
      rw [z, e1] at hd
      exact c (Option.some.inj hd)
    rw [List.getElem?_set_ne ei] at e2
    exact O.each i l' ns e1 e2
/-- .. exchanged for a new one -/
theorem Off.newLe (O : Off a H F o) {d : Nat} {l' : Addr} {ns' : List Int} (hd : d < F.ls.length) (hl : H l' = some (.lst (ns'.map V.int))) (hn : l' ∉ F.foot) :
    Off a (upd H F.aL (.lst ((F.ls.set d l').map V.ref))) { F with ls := F.ls.set d l' } { o with le := o.le.set d ns' } := by
  have n := O.ne
  obtain ⟨hk, h3, hh⟩ := O.ho
  have n' : l' ≠ F.p ∧ l' ≠ F.dS ∧ l' ≠ F.dH ∧ l' ≠ F.aS ∧ l' ≠ F.aL ∧ l' ∉ F.ls := by
    unfold Fp.foot at hn
    simp only [List.mem_cons, not_or] at hn
    exact hn
  obtain ⟨m1, m2, m3, m4, m5, m6⟩ := n'
  refine ⟨by rw [upd_ne n.p_aL]; exact O.ob, by rw [upd_ne n.dS_aL]; exact O.st, ⟨hk, by rw [upd_ne n.dH_aL]; exact h3, ⟨hh.nd, hh.at_, hh.tx⟩⟩, by rw [upd_ne n.aS_aL]; exact O.sg, upd_same, by rw [List.length_set, List.length_set]; exact O.ll, fun i l ns e1 e2 => ?_, ?_⟩
  · by_cases c : i = d
    · subst c
      have e1' : (F.ls.set i l')[i]? = some l := e1
      rw [List.getElem?_set_self hd] at e1'
      rw [List.getElem?_set_self (by rw [← O.ll]; exact hd)] at e2
      cases e1'
      cases e2
      rw [upd_ne m5]
      exact hl
    · have e1' : (F.ls.set d l')[i]? = some l := e1
      rw [List.getElem?_set_ne (Ne.symm c)] at e1'
      rw [List.getElem?_set_ne (Ne.symm c)] at e2
      rw [upd_ne (ls_ne n.aL_ls e1')]
      exact O.each i l ns e1' e2
  · have hs : ∀ x, x ∈ F.ls.set d l' → x ∈ F.ls ∨ x = l' := fun x hx => List.mem_or_eq_of_mem_set hx
    have no : ∀ c, c ∉ F.ls → l' ≠ c → c ∉ F.ls.set d l' := fun c h1 h2 h3 => (hs c h3).elim h1 fun z => h2 z.symm
    have nds : (F.ls.set d l').Nodup := by
      have : ∀ (l : List Addr) (d : Nat), l.Nodup → l' ∉ l → (l.set d l').Nodup := by
        intro l
        induction l with
        | nil => intro d _ _; simp
        | cons x r ih =>
          intro d nd hx
          obtain ⟨h1, h2⟩ := List.nodup_cons.mp nd
          have hx1 : l' ≠ x := fun z => hx (by rw [z]; exact List.mem_cons_self)
          have hx2 : l' ∉ r := fun z => hx (List.mem_cons_of_mem _ z)
          cases d with
          | zero => exact List.nodup_cons.mpr ⟨hx2, h2⟩
          | succ d =>
            refine List.nodup_cons.mpr ⟨fun z => ?_, ih d h2 hx2⟩
            rcases List.mem_or_eq_of_mem_set z with q | q
            · exact h1 q
            · exact hx1 q.symm
      exact this _ d n.ls m6
    show (F.p :: F.dS :: F.dH :: F.aS :: F.aL :: F.ls.set d l').Nodup
    simp only [List.nodup_cons, List.mem_cons, not_or]
    exact ⟨⟨n.p_dS, n.p_dH, n.p_aS, n.p_aL, no _ n.p_ls m1⟩, ⟨n.dS_dH, n.dS_aS, n.dS_aL, no _ n.dS_ls m2⟩, ⟨n.dH_aS, n.dH_aL, no _ n.dH_ls m3⟩, ⟨n.aS_aL, no _ n.aS_ls m4⟩, no _ n.aL_ls m5, nds⟩
end
/-! ### holders put and dropped -/
theorem valV_drop : ∀ (kvs : List (Key × V)) (k j : Key), valV (dropK kvs k) j = if j = k then none else valV kvs j
  | [], k, j => by
    show (none : Option V) = _
    by_cases c : j = k
    · rw [if_pos c]
    · rw [if_neg c]
      rfl
  | p :: r, k, j => by
    by_cases e : p.1 = k
    · rw [dropK_pos e, valV_drop r k j]
      by_cases c : j = k
      · rw [if_pos c, if_pos c]
      · rw [if_neg c, if_neg c, valV_neg (fun z => c (by rw [← z, e]))]
    · rw [dropK_neg e]
      by_cases c : p.1 = j
      · rw [valV_pos c, if_neg (fun z => e (by rw [c, z])), valV_pos c]
      · rw [valV_neg c, valV_drop r k j]
        by_cases c2 : j = k
        · rw [if_pos c2, if_pos c2]
        · rw [if_neg c2, if_neg c2, valV_neg c]
theorem HolK.drop {hk : List (Key × V)} {o : Of} (h : HolK hk o) (n : Int) : HolK (dropK hk (Sum.inl n)) { o with ho := fun m => if m = n then none else o.ho m } := by
  refine ⟨nd_dropK h.nd, fun m => ?_, fun x => ?_⟩
  · rw [valV_drop]
    show _ = (if m = n then none else o.ho m).map V.int
    by_cases c : m = n
    · rw [if_pos (by rw [c]), if_pos c]
      rfl
    · rw [if_neg (fun z => c (Sum.inl.inj z)), if_neg c]
      exact h.at_ m
  · rw [valV_drop, if_neg (fun z => by cases z)]
    exact h.tx x
theorem HolK.put {hk : List (Key × V)} {o : Of} (h : HolK hk o) {n : Int} (d : Int) (hn : o.ho n = none) : HolK (putK hk (Sum.inl n) (.int d)) { o with ho := fun m => if m = n then some d else o.ho m } := by
  refine ⟨nd_putK _ h.nd (by rw [h.at_, hn]; rfl), fun m => ?_, fun x => ?_⟩
  · rw [valV_put]
    show _ = (if m = n then some d else o.ho m).map V.int
    by_cases c : m = n
    · rw [if_pos (by rw [c]), if_pos c]
      rfl
    · rw [if_neg (fun z => c (Sum.inl.inj z)), if_neg c]
      exact h.at_ m
  · rw [valV_put, if_neg (fun z => by cases z)]
    exact h.tx x
def Of.letgo (o : Of) (n : Int) (z : Str) : Of := { o with st := fun m => if m = n then z else o.st m, ho := fun m => if m = n then none else o.ho m }
section
variable {P : Program} {w : World} {K : PySem.W.Frag} {mg : Str → Option Value} {base : Heap} {a : Ad} {fd : Fd}
def spLetGo (a : Ad) : Sp := fun vs H Q _ => ∃ (F : Fp) (o : Of) (n : Int) (z : Str), vs = [.ref F.p, .int n, .str z] ∧ Off a H F o ∧ (1 ≤ n ∧ n ≤ (o.top : Int)) ∧ o.top ≤ 400 ∧ (∃ d, o.ho n = some d) ∧ ∀ H', Keep F.foot H H' → Off a H' F (o.letgo n z) → Q .non H'
theorem foot_dS (F : Fp) : F.dS ∈ F.foot := by simp [Fp.foot]
theorem foot_dH (F : Fp) : F.dH ∈ F.foot := by simp [Fp.foot]
theorem foot_aS (F : Fp) : F.aS ∈ F.foot := by simp [Fp.foot]
theorem foot_aL (F : Fp) : F.aL ∈ F.foot := by simp [Fp.foot]
theorem foot_ls {F : Fp} {l : Addr} {i : Nat} (h : F.ls[i]? = some l) : l ∈ F.foot := by
  have := List.mem_of_getElem? h
  simp [Fp.foot, this]
theorem ok_Office__let_go (T : Txt K mg a fd) : FnOk P w K mg base CX0 1 a.Office__let_go fd.Office__let_go ["self", "number", "state"] (spLetGo a) := by
  refine T.F_Office__let_go.ok sc_Office__let_go (fun vs H Q E h => ?_) (fun cdv A outer s H vs Q E hr h => ?_)
  · obtain ⟨F, o, n, z, rfl, _⟩ := h
    rfl
  · obtain ⟨F, o, n, z, rfl, O, hn, h400, ⟨d, hd⟩, k⟩ := h
    have hu := hu_of hr
    refine ⟨_, (pss_cons (ps_dput hu (pe_fld (pv 0) rfl) (pv 1) (pv 2) rfl)
    (pss_one (ps_ddel (pe_fld (pv 0) rfl) (pv 1)))), ?_⟩
    refine ⟨_, rfl, ?_⟩
    refine rd_states T O rfl ?_
    refine ⟨_, rfl, F.dS, _, rfl, DPut.k (k := Sum.inl n) O.st (small1000 (by rw [stK_length]; omega)), ?_⟩
    rw [putK_stK _ _ _ _ hn]
    have O1 := O.setSt (fun m => if m = n then z else o.st m)
    obtain ⟨hk, h3, hh⟩ := O1.ho
    refine ⟨_, rfl, F.p, a.C, F.dx, _, _, rfl, O1.ob, T.cl, T.na_holders, ofl_holders F, ?_⟩
    refine ⟨_, rfl, F.dH, hk, Sum.inl n, rfl, h3, rfl, (by rw [hh.at_ n]; show ((o.ho n).map V.int).isSome = true; rw [hd]; rfl), ?_⟩
    exact k _ ((keep_upd (.inl (foot_dS F))).trans (keep_upd (.inl (foot_dH F)))) (O1.setHo _ (hh.drop n))
end
end Nu
namespace Nu
open PySem PySem.Spec PyProof.Rows L2
def Fit (o : Of) (many f : Int) : Prop := 1 ≤ f ∧ f + many - 1 ≤ (o.top : Int) ∧ ∀ n, f ≤ n → n < f + many → o.st n = "free"
def Least (o : Of) (many f : Int) : Prop := Fit o many f ∧ ∀ g, g < f → ¬ Fit o many g
theorem Least.uniq {o : Of} {m f g : Int} (h : Least o m f) (k : Least o m g) : f = g := by
  by_cases c : f < g
  · exact absurd h.1 (k.2 f c)
  · by_cases c2 : g < f
    · exact absurd k.1 (h.2 g c2)
    · omega
def blk (f : Int) (k : Nat) : List Int := (List.range k).map fun (j : Nat) => f + (j : Int)
theorem blk_succ (f : Int) (k : Nat) : blk f (k + 1) = blk f k ++ [f + (k : Int)] := by
  unfold blk
  rw [List.range_succ, List.map_append]
  rfl
theorem mem_blk {f : Int} {k : Nat} {x : Int} : x ∈ blk f k ↔ f ≤ x ∧ x < f + (k : Int) := by
  unfold blk
  rw [List.mem_map]
  constructor
  · rintro ⟨j, hj, rfl⟩
    have := List.mem_range.mp hj
    omega
  · rintro ⟨h1, h2⟩
    exact ⟨(x - f).toNat, List.mem_range.mpr (by omega), by omega⟩
theorem nodup_blk (f : Int) : ∀ k : Nat, (blk f k).Nodup
  | 0 => List.nodup_nil
  | k + 1 => by
    rw [blk_succ, List.nodup_append]
    refine ⟨nodup_blk f k, by simp, fun x hx y hy => ?_⟩
    have h1 := mem_blk.mp hx
    have h2 : y = f + (k : Int) := by simpa using hy
    omega
theorem blk_length (f : Int) (k : Nat) : (blk f k).length = k := by
  unfold blk
  rw [List.length_map, List.length_range]
/-- a block of k numbers from f lent to the desk d -/
def Of.lend (o : Of) (d : Nat) (f : Int) (k : Nat) : Of where
  top := o.top
  st := fun n => if f ≤ n ∧ n < f + (k : Int) then "open" else o.st n
  ho := fun n => if f ≤ n ∧ n < f + (k : Int) then some (d : Int) else o.ho n
  sg := o.sg
  le := o.le.set d ((o.le.getD d []) ++ blk f k)
theorem set_getD {α : Type} [Inhabited α] (l : List (List α)) (d : Nat) : l.set d (l.getD d [] ++ []) = l := by
  rw [List.append_nil]
  refine List.ext_getElem? fun i => ?_
  by_cases c : d = i
  · subst c
    by_cases h : d < l.length
    · rw [List.getElem?_set_self h, List.getD_eq_getElem?_getD, List.getElem?_eq_getElem h]
      rfl
    · rw [List.getElem?_eq_none (by simpa using Nat.le_of_not_lt h), List.getElem?_eq_none (Nat.le_of_not_lt h)]
  · rw [List.getElem?_set_ne c]
theorem lend_zero (o : Of) (d : Nat) (f : Int) : o.lend d f 0 = o := by
  obtain ⟨t, st, ho, sg, le⟩ := o
  unfold Of.lend
  dsimp only
  congr 1
  · funext n
    rw [if_neg (by omega)]
  · funext n
    rw [if_neg (by omega)]
  · exact set_getD le d
theorem fit_lt {o : Of} {m f : Int} {k : Nat} (h : Fit o m f) (hk : (k : Int) < m) : o.st (f + (k : Int)) = "free" ∧ 1 ≤ f + (k : Int) ∧ f + (k : Int) ≤ (o.top : Int) := by
  obtain ⟨h1, h2, h3⟩ := h
  exact ⟨h3 _ (by omega) (by omega), by omega, by omega⟩
theorem wf_lend {o : Of} (w : Wf o) {m f : Int} (h : Fit o m f) {d k : Nat} (hd : d < o.le.length) (hk : (k : Int) ≤ m) : Wf (o.lend d f k) := by
  obtain ⟨h1, h2, h3⟩ := h
  have hg : o.le.getD d [] = o.le[d] := by rw [List.getD_eq_getElem?_getD, List.getElem?_eq_getElem hd]; rfl
  have e0 : o.le[d]? = some o.le[d] := List.getElem?_eq_getElem hd
  have noho : ∀ n, f ≤ n → n < f + (k : Int) → o.ho n = none := fun n a b => w.fre n (h3 n a (by omega))
  have old : ∀ (i : Nat) (ns : List Int), o.le[i]? = some ns → ∀ n ∈ ns, ¬ (f ≤ n ∧ n < f + (k : Int)) := fun i ns e n hn c => by
    have := ((w.own i ns e).2 n hn).2.2
    rw [noho n c.1 c.2] at this
    cases this
  refine ⟨w.t1, w.t400, by show 1 ≤ (o.le.set d _).length; rw [List.length_set]; exact w.d1, by show (o.le.set d _).length ≤ 6; rw [List.length_set]; exact w.d6, by show o.sg.length = (o.le.set d _).length; rw [List.length_set]; exact w.sl, ?_, ?_, ?_⟩
  · intro i ns e
    have e : (o.le.set d ((o.le.getD d []) ++ blk f k))[i]? = some ns := e
    by_cases c : d = i
    · subst c
      rw [List.getElem?_set_self hd] at e
      cases e
      rw [hg]
      obtain ⟨nd, q⟩ := w.own d _ e0
      refine ⟨List.nodup_append.mpr ⟨nd, nodup_blk f k, fun x hx y hy z => ?_⟩, fun n hn => ?_⟩
      · subst z
        exact old d _ e0 x hx (mem_blk.mp hy)
      · rcases List.mem_append.mp hn with z | z
        · obtain ⟨q1, q2, q3⟩ := q n z
          exact ⟨q1, q2, by show (if f ≤ n ∧ n < f + (k : Int) then _ else _) = _; rw [if_neg (old d _ e0 n z)]; exact q3⟩
        · have b := mem_blk.mp z
          exact ⟨by omega, by show n ≤ (o.top : Int); omega, by show (if f ≤ n ∧ n < f + (k : Int) then _ else _) = _; rw [if_pos b]⟩
    · rw [List.getElem?_set_ne c] at e
      obtain ⟨nd, q⟩ := w.own i ns e
      refine ⟨nd, fun n hn => ?_⟩
      obtain ⟨q1, q2, q3⟩ := q n hn
      exact ⟨q1, q2, by show (if f ≤ n ∧ n < f + (k : Int) then _ else _) = _; rw [if_neg (old i ns e n hn)]; exact q3⟩
  · intro n z e
    have e : (if f ≤ n ∧ n < f + (k : Int) then some (d : Int) else o.ho n) = some z := e
    show ∃ ns, 0 ≤ z ∧ (o.le.set d ((o.le.getD d []) ++ blk f k))[z.toNat]? = some ns ∧ n ∈ ns
    by_cases c : f ≤ n ∧ n < f + (k : Int)
    · rw [if_pos c] at e
      cases e
      exact ⟨_, by omega, by rw [Int.toNat_natCast, List.getElem?_set_self hd], List.mem_append_right _ (mem_blk.mpr c)⟩
    · rw [if_neg c] at e
      obtain ⟨ns, h0, e1, hn⟩ := w.hol n z e
      by_cases c2 : d = z.toNat
      · refine ⟨_, h0, by rw [← c2, List.getElem?_set_self hd], List.mem_append_left _ ?_⟩
        rw [hg]
        rw [← c2, e0] at e1
        cases e1
        exact hn
      · exact ⟨ns, h0, by rw [List.getElem?_set_ne c2]; exact e1, hn⟩
  · intro n e
    have e : (if f ≤ n ∧ n < f + (k : Int) then ("open" : Str) else o.st n) = "free" := e
    show (if f ≤ n ∧ n < f + (k : Int) then some (d : Int) else o.ho n) = none
    by_cases c : f ≤ n ∧ n < f + (k : Int)
    · rw [if_pos c] at e
      exact absurd e (by decide +kernel)
    · rw [if_neg c] at e ⊢
      exact w.fre n e
section
variable {P : Program} {w : World} {K : PySem.W.Frag} {mg : Str → Option Value} {base : Heap} {a : Ad} {fd : Fd}
def spFirst (a : Ad) : Sp := fun vs H Q _ => ∃ (F : Fp) (o : Of) (m : Int), vs = [.ref F.p, .int m] ∧ Off a H F o ∧ 1 ≤ m ∧ ((∀ f, ¬ Fit o m f) → ∀ H', Same H H' → Q .non H') ∧ (∀ f, Least o m f → ∀ H', Same H H' → Q (.int f) H')
theorem ok_Office__first_of_free (T : Txt K mg a fd) : FnOk P w K mg base CX0 2 a.Office__first_of_free fd.Office__first_of_free ["self", "many"] (spFirst a) := by
  have G_Office_numbers := ok_Office_numbers (P := P) (w := w) (base := base) T
  refine T.F_Office__first_of_free.ok sc_Office__first_of_free (fun vs H Q E h => ?_) (fun cdv A outer s H vs Q E hr h => ?_)
  · obtain ⟨F, o, m, rfl, _⟩ := h
    rfl
  · obtain ⟨F, o, m, rfl, O, hm, k1, k2⟩ := h
    have hu := hu_of hr
    refine ⟨_, (pss_cons (ps_set (i := 2) sc_Office__first_of_free.nd rfl (Or.inl rfl) pe_int)
    (pss_cons (ps_for PassesOwn.never rfl (pi_list (pe_meth0 (pv 0) T.cl T.m_Office_numbers G_Office_numbers (hr.mono (by decide)) T.b_Office_numbers .nil pass0)) (pg_name (i := 3) sc_Office__first_of_free.nd rfl (Or.inl rfl))
      (pss_cons (ps_set (i := 2) sc_Office__first_of_free.nd rfl (Or.inl rfl) (pe_ifExp (pt_cmpR op_eq (pe_dget hu (pe_fld (pv 0) rfl) (pv 3) (fun _ _ => rfl)) (pe_gs (by rfl) T.g_FREE) (nomark _)) (pe_op op_add (pv 2) pe_int) pe_int))
    (pss_one (ps_if (pt_cmpR op_eq (pv 2) (pv 1) (nomark _)) (pss_one (ps_ret (pe_op op_add (pe_op op_sub (pv 3) (pv 1)) pe_int))) pss_nil))))
    (pss_one (ps_ret pe_non)))), ?_⟩
    refine ⟨_, rfl, F.p, F.dx, _, rfl, O.ob, ofl_no F (by decide +kernel) (by decide +kernel) (by decide +kernel) (by decide +kernel), F, o, rfl, O, fun p hp => ?_⟩
    have s0 : Same H (upd H p (.lst ((List.range o.top).map fun (i : Nat) => V.int ((i : Int) + 1)))) := same_upd hp
    refine ⟨p, rfl, ⟨_, SqL.of upd_same⟩, for_list (K := K) (a := p) (xs := (List.range o.top).map fun (i : Nat) => V.int ((i : Int) + 1))
      (fun i σ H' => ∃ (run : Int) (v : Option V), σ = [some (.ref F.p), some (.int m), some (.int run), v] ∧ Same (upd H p (.lst ((List.range o.top).map fun (i : Nat) => V.int ((i : Int) + 1)))) H' ∧ 0 ≤ run ∧ run < m ∧ run ≤ (i : Int) ∧
        (∀ n, (i : Int) - run < n → n ≤ (i : Int) → o.st n = "free") ∧ (run = (i : Int) ∨ o.st ((i : Int) - run) ≠ "free") ∧ ∀ f, Fit o m f → (i : Int) < f + m - 1)
      ⟨0, none, rfl, Same.refl _, Int.le_refl _, by omega, Int.le_refl _, fun n h1 h2 => by omega, .inl rfl, fun f hf => by have := hf.1; omega⟩
      (fun i σ H' _ ⟨_, _, _, s2, _⟩ => s2.seq (SqL.of upd_same)) ?_ ?_⟩
    · rintro i x σ H' hi ⟨run, v, rfl, s2, r0, r1, r2, r3, r4, r5⟩
      have O' : Off a H' F o := O.stay fun c _ u e => s2 c u (s0 c u e)
      obtain ⟨hil, rfl⟩ : i < o.top ∧ x = V.int ((i : Int) + 1) := by
        rw [List.getElem?_map] at hi
        cases e : (List.range o.top)[i]? with
        | none => rw [e] at hi; cases hi
        | some j =>
          rw [e] at hi
          have hj := List.getElem?_eq_some_iff.mp e
          obtain ⟨q1, q2⟩ := hj
          rw [List.length_range] at q1
          rw [List.getElem_range] at q2
          subst q2
          exact ⟨q1, (Option.some.inj hi).symm⟩
      have hb : 1 ≤ (i : Int) + 1 ∧ (i : Int) + 1 ≤ (o.top : Int) := by omega
      refine rd_state T O' rfl rfl hb ?_
      refine ⟨rfl, _, rfl, ?_⟩
      by_cases c : o.st ((i : Int) + 1) = "free"
      · rw [deqT c]
        refine iteT ?_
        refine ⟨_, rfl, _, _, rfl, rfl, ?_⟩
        refine ⟨_, rfl, _, rfl, rfl, _, rfl, ?_⟩
        by_cases c2 : run + 1 = m
        · rw [decide_eq_true (show V.int (run + 1) = V.int m by rw [c2])]
          refine iteT ?_
          refine ⟨_, rfl, _, rfl, _, _, rfl, rfl, _, _, rfl, rfl, ?_⟩
          refine k2 _ ⟨⟨by omega, by omega, fun n h1 h2 => ?_⟩, fun g hg hf => ?_⟩ H' (s0.trans s2)
          · by_cases c3 : n = (i : Int) + 1
            · rw [c3]
              exact c
            · exact r3 n (by omega) (by omega)
          · have := r5 g hf
            omega
        · rw [decide_eq_false (show ¬ V.int (run + 1) = V.int m from fun z => c2 (by injection z))]
          refine iteF ?_
          refine ⟨run + 1, _, rfl, s2, by omega, by omega, by omega, fun n h1 h2 => ?_, ?_, fun f hf => ?_⟩
          · by_cases c3 : n = (i : Int) + 1
            · rw [c3]
              exact c
            · exact r3 n (by omega) (by omega)
          · rcases r4 with z | z
            · exact .inl (by omega)
            · refine .inr ?_
              rw [show ((i + 1 : Nat) : Int) - (run + 1) = (i : Int) - run by omega]
              exact z
          · have h5 := r5 f hf
            obtain ⟨f1, f2, f3⟩ := hf
            by_cases c4 : f + m - 1 = ((i + 1 : Nat) : Int)
            · rcases r4 with z | z
              · omega
              · exact absurd (f3 ((i : Int) - run) (by omega) (by omega)) z
            · omega
      · rw [deqF c]
        refine iteF ?_
        refine ⟨_, rfl, _, rfl, rfl, _, rfl, ?_⟩
        rw [decide_eq_false (show ¬ V.int 0 = V.int m from fun z => by injection z with z; omega)]
        refine iteF ?_
        refine ⟨0, _, rfl, s2, Int.le_refl _, by omega, by omega, fun n h1 h2 => by omega, .inr ?_, fun f hf => ?_⟩
        · rw [show ((i + 1 : Nat) : Int) - 0 = (i : Int) + 1 by omega]
          exact c
        · have h5 := r5 f hf
          obtain ⟨f1, f2, f3⟩ := hf
          by_cases c4 : f + m - 1 = ((i + 1 : Nat) : Int)
          · exact absurd (f3 ((i : Int) + 1) (by omega) (by omega)) c
          · omega
    · rintro σ H' ⟨run, v, rfl, s2, r0, r1, r2, r3, r4, r5⟩
      refine k1 (fun f hf => ?_) H' (s0.trans s2)
      have h5 := r5 f hf
      have h2 := hf.2.1
      rw [List.length_map, List.length_range] at h5
      omega
end
end Nu
namespace Nu
open PySem PySem.Spec PyProof.Rows L2
theorem lend_succ_le (o : Of) (d : Nat) (f : Int) (k : Nat) (hd : d < o.le.length) : (o.lend d f (k + 1)).le = ((o.lend d f k).le).set d ((((o.lend d f k).le).getD d []) ++ [f + (k : Int)]) := by
  show o.le.set d _ = (o.le.set d _).set d _
  rw [List.set_set]
  congr 1
  have e : (o.le.set d ((o.le.getD d []) ++ blk f k)).getD d [] = (o.le.getD d []) ++ blk f k := by
    rw [List.getD_eq_getElem?_getD, List.getElem?_set_self hd]
    rfl
  show _ = (o.le.set d ((o.le.getD d []) ++ blk f k)).getD d [] ++ _
  rw [e, blk_succ, List.append_assoc]
theorem of_eq {o o' : Of} (h1 : o.top = o'.top) (h2 : o.st = o'.st) (h3 : o.ho = o'.ho) (h4 : o.sg = o'.sg) (h5 : o.le = o'.le) : o = o' := by
  obtain ⟨t, st, ho, sg, le⟩ := o
  obtain ⟨t', st', ho', sg', le'⟩ := o'
  dsimp only at h1 h2 h3 h4 h5
  subst h1 h2 h3 h4 h5
  rfl
section
variable {P : Program} {w : World} {K : PySem.W.Frag} {mg : Str → Option Value} {base : Heap} {a : Ad} {fd : Fd}
/-- no attribute of an instance bears a method's name -/
theorem ofl_m (F : Fp) {m : Str} (h : (decide (m = "_lent") || decide (m = "_stages") || decide (m = "_holders") || decide (m = "_states")) = false := by decide +kernel) : (ofl F).lookup m = none := by
  simp only [Bool.or_eq_false_iff, decide_eq_false_iff_not] at h
  obtain ⟨⟨⟨h1, h2⟩, h3⟩, h4⟩ := h
  exact ofl_no F h1 h2 h3 h4
/-- what the methods of a desk that goes on ask ahead: NoDesk, Stopped -/
def Ahead (a : Ad) (H : Hp) (o : Of) (d : Int) (E : XK) (go : Nat → Prop) : Prop :=
  (¬ (0 ≤ d ∧ d < (o.sg.length : Int)) → E (.ref a.NoDesk) none H) ∧ ∀ (i : Nat) (z : Str), d = (i : Int) → o.sg[i]? = some z → (z ≠ "going" → E (.ref a.Stopped) none H) ∧ (z = "going" → go i)
def spLend (a : Ad) : Sp := fun vs H Q E => ∃ (F : Fp) (o : Of) (d m : Int), vs = [.ref F.p, .int d, .int m] ∧ Off a H F o ∧ Wf o ∧ d.natAbs.log2 < 1920 ∧ m.natAbs.log2 < 1920 ∧
  Ahead a H o d E fun i => (m < 1 → E (.ref a.NoCount) none H) ∧ (1 ≤ m → (∀ f, ¬ Fit o m f) → ∀ H', Same H H' → E (.ref a.NoRoom) none H') ∧
    (1 ≤ m → ∀ f, Least o m f → ∀ H' t, Keep F.foot H H' → H t = none → t ∉ F.foot → Off a H' F (o.lend i f m.toNat) → H' t = some (.tup [.int f, .int (f + m - 1)]) → Q (.ref t) H')
theorem ok_Office_lend (T : Txt K mg a fd) : FnOk P w K mg base (L2.CX P w) 3 a.Office_lend fd.Office_lend ["self", "desk", "many"] (spLend a) := by
  have G_Office__check_going := ok_Office__check_going (P := P) (w := w) (base := base) T
  have G_Office__first_of_free := ok_Office__first_of_free (P := P) (w := w) (base := base) T
  refine T.F_Office_lend.okX sc_Office_lend (fun vs H Q E h => ?_) (fun cdv A outer s H vs Q E hr h => ?_)
  · obtain ⟨F, o, d, m, rfl, _⟩ := h
    rfl
  · obtain ⟨F, o, d, m, rfl, O, W, hd, hm, k1, k2⟩ := h
    have hu := hu_of hr
    refine ⟨_, (pss_cons (ps_expr (pe_meth (pv 0) T.cl T.m_Office__check_going G_Office__check_going (hr.mono (by decide)) T.b_Office__check_going .nil passU (pa_cons (pv 1) pa_nil)))
    (pss_cons (ps_if (pt_cmpR op_lt (pv 2) pe_int (nomark _)) (pss_one (ps_raise rfl takesU (pmk_ownA PySem.F.excBase_ValueError T.x_NoCount.x T.x_NoCount.g T.x_NoCount.k (raises_own T.x_NoCount.b T.x_NoCount.t) (by rfl) (pa_cons (pe_joined (.cons pe_str (.cons (pe_fmt (pv 2)) (.cons pe_str PJ.nil)))) pa_nil)))) pss_nil)
    (pss_cons (ps_set (i := 3) sc_Office_lend.nd rfl (Or.inl rfl) (pe_meth (pv 0) T.cl T.m_Office__first_of_free G_Office__first_of_free (hr.mono (by decide)) T.b_Office__first_of_free .nil pass0 (pa_cons (pv 2) pa_nil)))
    (pss_cons (ps_if (pt_cmpR op_isN (pv 3) pe_non (nomark _)) (pss_one (ps_raise rfl takesU (pmk_ownA PySem.F.excBase_ValueError T.x_NoRoom.x T.x_NoRoom.g T.x_NoRoom.k (raises_own T.x_NoRoom.b T.x_NoRoom.t) (by rfl) (pa_cons (pe_joined (.cons pe_str (.cons (pe_fmt (pv 2)) (.cons pe_str PJ.nil)))) pa_nil)))) pss_nil)
    (pss_cons (ps_set (i := 4) sc_Office_lend.nd rfl (Or.inl rfl) (pe_op op_sub (pe_op op_add (pv 3) (pv 2)) pe_int))
    (pss_cons (ps_for passesU rfl (pi_range2 (by rfl) T.n_range (pa_cons (pv 3) (pa_cons (pe_op op_add (pv 4) pe_int) pa_nil))) (pg_name (i := 5) sc_Office_lend.nd rfl (Or.inl rfl))
      (pss_cons (ps_dput hu (pe_fld (pv 0) rfl) (pv 5) (pe_gs (by rfl) T.g_OPEN) rfl)
    (pss_cons (ps_dput hu (pe_fld (pv 0) rfl) (pv 5) (pv 1) rfl)
    (pss_one (ps_expr (pe_bm PySem.F.plainAttrs_list PySem.F.slot_list_append PySem.F.type_list_append mt_append (pe_ix ix_list (pe_fld (pv 0) rfl) (pv 1) (fun _ _ => rfl)) (pa_cons (pv 5) pa_nil)))))))
    (pss_one (ps_ret (pe_tup (pa_cons (pv 3) (pa_cons (pv 4) pa_nil))))))))))), ?_⟩
    refine ⟨_, rfl, F.p, F.dx, _, rfl, O.ob, ofl_m F, _, rfl, F, o, d, rfl, O, hd, k1, fun i z e1 e2 => ⟨fun c => (k2 i z e1 e2).1 c, fun c => ?_⟩⟩
    obtain ⟨k3, k4, k5⟩ := (k2 i z e1 e2).2 c
    subst e1
    have hi : i < o.le.length := by
      rw [← W.sl]
      exact (List.getElem?_eq_some_iff.mp e2).1
    refine ⟨_, rfl, _, _, rfl, rfl, _, rfl, ?_⟩
    by_cases c1 : m < 1
    · rw [decide_eq_true c1]
      refine iteT ?_
      exact js_s (b := 0) (Nat.le_refl _) (by decide +kernel) (by omega) fun _ ha => js_f rfl hm ha (by omega) fun _ ha => js_s ha (by decide +kernel) (by omega) fun _ _ => ⟨one_le _, k3 c1⟩
    · rw [decide_eq_false c1]
      refine iteF ?_
      have m1 : 1 ≤ m := by omega
      refine ⟨_, rfl, F.p, F.dx, _, rfl, O.ob, ofl_m F, _, rfl, F, o, m, rfl, O, m1, fun hf H1 s1 => ?_, fun f hf H1 s1 => ?_⟩
      · refine ⟨_, rfl, rfl, _, rfl, ?_⟩
        refine iteT ?_
        exact js_s (b := 0) (Nat.le_refl _) (by decide +kernel) (by omega) fun _ ha => js_f rfl hm ha (by omega) fun _ ha => js_s ha (by decide +kernel) (by omega) fun _ _ => ⟨one_le _, k4 m1 hf H1 s1⟩
      · refine ⟨_, rfl, rfl, _, rfl, ?_⟩
        refine iteF ?_
        refine ⟨_, rfl, _, rfl, _, _, rfl, rfl, _, _, rfl, rfl, ?_⟩
        have O1 : Off a H1 F o := O.stay fun c _ u e => s1 c u e
        obtain ⟨⟨f1, f2, f3⟩, f4⟩ := id hf
        have t4 := W.t400
        refine ⟨_, rfl, _, rfl, _, _, rfl, rfl, f, f + m - 1 + 1, rfl, ⟨by omega, by omega, by omega, by omega⟩, ?_⟩
        have en : (f + m - 1 + 1 - f).toNat = m.toNat := by congr 1; omega
        rw [en]
        refine for_range (lo := f) (n := m.toNat) (fun j σ H' => ∃ v : Option V, σ = [some (.ref F.p), some (.int (i : Int)), some (.int m), some (.int f), some (.int (f + m - 1)), v] ∧ Keep F.foot H1 H' ∧ Off a H' F (o.lend i f j))
          ⟨none, rfl, Keep.refl _ _, by rw [lend_zero]; exact O1⟩ ?_ ?_
        · rintro j σ H2 hj ⟨v, rfl, kp, O2⟩
          have hjm : (j : Int) < m := by omega
          obtain ⟨q1, q2, q3⟩ := fit_lt hf.1 hjm
          have W2 := wf_lend W hf.1 hi (k := j) (by omega)
          -- self._states[number] = OPEN
          refine ⟨_, rfl, F.p, a.C, F.dx, _, _, rfl, O2.ob, T.cl, T.na_states, ofl_states F, ?_⟩
          refine ⟨_, rfl, F.dS, _, rfl, DPut.k (k := Sum.inl (f + (j : Int))) O2.st (small1000 (by rw [stK_length]; show o.top ≤ 1000; omega)), ?_⟩
          rw [putK_stK _ _ _ _ (show 1 ≤ f + (j : Int) ∧ f + (j : Int) ≤ ((o.lend i f j).top : Int) from ⟨q2, q3⟩)]
          have O3 := O2.setSt (fun n => if n = f + (j : Int) then "open" else (o.lend i f j).st n)
          obtain ⟨hk, h3, hh⟩ := O3.ho
          have hkl : hk.length ≤ 400 := by
            obtain ⟨hk', h3', hh'⟩ := O2.ho
            have e3 : (upd H2 F.dS (.dK (stK (o.lend i f j).top (fun n => if n = f + (j : Int) then "open" else (o.lend i f j).st n)))) F.dH = H2 F.dH := upd_ne O2.ne.dS_dH.symm
            rw [e3, h3'] at h3
            cases h3
            exact hh'.le W2
          -- self._holders[number] = desk
          refine ⟨_, rfl, ?_⟩
          refine rd_holders T O3 rfl ?_
          refine ⟨_, rfl, F.dH, _, rfl, DPut.k (k := Sum.inl (f + (j : Int))) h3 (small1000 (by omega)), ?_⟩
          have noho : (o.lend i f j).ho (f + (j : Int)) = none := by
            show (if f ≤ f + (j : Int) ∧ f + (j : Int) < f + (j : Int) then _ else o.ho _) = none
            rw [if_neg (by omega)]
            exact W.fre _ q1
          have O4 := O3.setHo _ (hh.put (i : Int) noho)
          -- self._lent[desk].append(number)
          have hil : i < F.ls.length := by
            rw [O2.ll]
            show i < (o.le.set i _).length
            rw [List.length_set]
            exact hi
          have hl1 : F.ls[i]? = some F.ls[i] := List.getElem?_eq_getElem hil
          have hns : (o.lend i f j).le[i]? = some (o.le.getD i [] ++ blk f j) := List.getElem?_set_self hi
          have hl := O4.each i _ _ hl1 hns
          have len := Wf.len400 W2 hns
          refine rd_lent1 T O4 rfl rfl hl1 ?_
          refine ⟨.inl ⟨rfl, _, SqL.of hl⟩, _, rfl, _, _, _, rfl, rfl, hl, small1000 (by rw [List.length_map]; omega), ?_⟩
          have em : (o.le.getD i [] ++ blk f j).map V.int ++ [V.int (f + (j : Int))] = ((o.le.getD i [] ++ blk f j) ++ [f + (j : Int)]).map V.int := by
            simp only [List.map_append, List.map_cons, List.map_nil]
          rw [em]
          have O5 := O4.setLe hl1 ((o.le.getD i [] ++ blk f j) ++ [f + (j : Int)])
          refine ⟨_, rfl, (kp.trans (keep_upd (.inl (foot_dS F)))).trans ((keep_upd (.inl (foot_dH F))).trans (keep_upd (.inl (foot_ls hl1)))), ?_⟩
          have eo : o.lend i f (j + 1) = { ({ ({ (o.lend i f j) with st := fun n => if n = f + (j : Int) then "open" else (o.lend i f j).st n } : Of) with ho := fun m => if m = f + (j : Int) then some (i : Int) else (o.lend i f j).ho m } : Of) with le := ((o.lend i f j).le).set i ((o.le.getD i [] ++ blk f j) ++ [f + (j : Int)]) } := by
            refine of_eq rfl (funext fun n => ?_) (funext fun n => ?_) rfl ?_
            · show (if f ≤ n ∧ n < f + ((j + 1 : Nat) : Int) then ("open" : Str) else o.st n) = if n = f + (j : Int) then ("open" : Str) else if f ≤ n ∧ n < f + (j : Int) then ("open" : Str) else o.st n
              by_cases c : n = f + (j : Int)
              · rw [if_pos c, if_pos (by omega)]
              · rw [if_neg c]
                by_cases c2 : f ≤ n ∧ n < f + (j : Int)
                · rw [if_pos c2, if_pos (by omega)]
                · rw [if_neg c2, if_neg (by omega)]
            · show (if f ≤ n ∧ n < f + ((j + 1 : Nat) : Int) then some (i : Int) else o.ho n) = if n = f + (j : Int) then some (i : Int) else if f ≤ n ∧ n < f + (j : Int) then some (i : Int) else o.ho n
              by_cases c : n = f + (j : Int)
              · rw [if_pos c, if_pos (by omega)]
              · rw [if_neg c]
                by_cases c2 : f ≤ n ∧ n < f + (j : Int)
                · rw [if_pos c2, if_pos (by omega)]
                · rw [if_neg c2, if_neg (by omega)]
            · rw [lend_succ_le o i f j hi]
              show _ = ((o.lend i f j).le).set i ((o.le.getD i [] ++ blk f j) ++ [f + (j : Int)])
              congr 2
              rw [List.getD_eq_getElem?_getD, hns]
              rfl
          rw [eo]
          exact O5
        · rintro σ H2 ⟨v, rfl, kp, O2⟩
          refine ⟨_, rfl, _, rfl, (by show 2 ≤ sizeLine; decide), fun t ht => ?_⟩
          have s12 : Keep F.foot H H2 := (Keep.same s1).trans kp
          have tn : t ∉ F.foot := fun z => by
            have hp : ∀ c ∈ F.foot, ∃ u, H2 c = some u := by
              intro c hc
              unfold Fp.foot at hc
              simp only [List.mem_cons] at hc
              rcases hc with rfl | rfl | rfl | rfl | rfl | hc
              · exact ⟨_, O2.ob⟩
              · exact ⟨_, O2.st⟩
              · obtain ⟨hk, h3, _⟩ := O2.ho
                exact ⟨_, h3⟩
              · exact ⟨_, O2.sg⟩
              · exact ⟨_, O2.le⟩
              · obtain ⟨ix, hix, rfl⟩ := List.getElem_of_mem hc
                have hix2 : ix < (o.lend i f m.toNat).le.length := by rw [← O2.ll]; exact hix
                exact ⟨_, O2.each ix _ _ (List.getElem?_eq_getElem hix) (List.getElem?_eq_getElem hix2)⟩
            obtain ⟨u, hu'⟩ := hp t z
            rw [ht] at hu'
            cases hu'
          have th : H t = none := by
            cases e : H t with
            | none => rfl
            | some u =>
              have := s12 t u e tn
              rw [ht] at this
              cases this
          exact k5 m1 f hf _ t (s12.trans (keep_upd (.inr ht))) th tn (O2.stay fun c hc u e => by rw [upd_ne (fun z => tn (by rw [← z]; exact hc))]; exact e) upd_same
end
end Nu
namespace Nu
open PySem PySem.Spec PyProof.Rows L2
/-- numbers let go one after another -/
def Of.lets (o : Of) (l : List (Int × Str)) : Of := l.foldl (fun o p => o.letgo p.1 p.2) o
theorem lets_snoc (o : Of) (l : List (Int × Str)) (n : Int) (z : Str) : o.lets (l ++ [(n, z)]) = (o.lets l).letgo n z := by
  unfold Of.lets
  rw [List.foldl_append]
  rfl
theorem lets_top (l : List (Int × Str)) : ∀ o : Of, (o.lets l).top = o.top ∧ (o.lets l).sg = o.sg ∧ (o.lets l).le = o.le := by
  induction l with
  | nil => intro o; exact ⟨rfl, rfl, rfl⟩
  | cons p r ih => intro o; exact ih (o.letgo p.1 p.2)
theorem lets_ho (l : List (Int × Str)) : ∀ (o : Of) (n : Int), (o.lets l).ho n = if n ∈ l.map (·.1) then none else o.ho n := by
  induction l with
  | nil => intro o n; rw [if_neg (by simp)]; rfl
  | cons p r ih =>
    intro o n
    show ((o.letgo p.1 p.2).lets r).ho n = _
    rw [ih]
    show (if n ∈ r.map (·.1) then none else if n = p.1 then none else o.ho n) = _
    by_cases c : n ∈ r.map (·.1)
    · rw [if_pos c, if_pos (by simp only [List.map_cons, List.mem_cons]; exact .inr c)]
    · rw [if_neg c]
      by_cases c2 : n = p.1
      · rw [if_pos c2, if_pos (by simp only [List.map_cons, List.mem_cons]; exact .inl c2)]
      · rw [if_neg c2, if_neg (by simp only [List.map_cons, List.mem_cons, not_or]; exact ⟨c2, c⟩)]
theorem lets_st_out (l : List (Int × Str)) : ∀ (o : Of) (n : Int), n ∉ l.map (·.1) → (o.lets l).st n = o.st n := by
  induction l with
  | nil => intro o n _; rfl
  | cons p r ih =>
    intro o n h
    simp only [List.map_cons, List.mem_cons, not_or] at h
    show ((o.letgo p.1 p.2).lets r).st n = _
    rw [ih _ n h.2]
    show (if n = p.1 then p.2 else o.st n) = _
    rw [if_neg h.1]
theorem lets_st_in (l : List (Int × Str)) : ∀ (o : Of) (n : Int) (z : Str), (l.map (·.1)).Nodup → (n, z) ∈ l → (o.lets l).st n = z := by
  induction l with
  | nil => intro o n z _ h; cases h
  | cons p r ih =>
    intro o n z nd h
    obtain ⟨h1, h2⟩ := List.nodup_cons.mp nd
    show ((o.letgo p.1 p.2).lets r).st n = z
    rcases List.mem_cons.mp h with e | e
    · subst e
      rw [lets_st_out r _ n h1]
      show (if n = n then z else _) = z
      rw [if_pos rfl]
    · exact ih _ n z h2 e
/-- behind a report of a desk's first numbers (ws: what came of them) -/
def Of.report (o : Of) (d : Nat) (ws : List Str) : Of :=
  { o.lets (((o.le.getD d []).take ws.length).zip ws) with le := o.le.set d ((o.le.getD d []).drop ws.length) }
def Of.back (o : Of) (d : Nat) : Of :=
  { o.lets ((o.le.getD d []).map fun n => (n, "free")) with le := o.le.set d [] }
/-- numbers of a desk let go: the invariant -/
theorem wf_lets {o : Of} (w : Wf o) {d : Nat} {ns : List Int} (hd : o.le[d]? = some ns) (l : List (Int × Str)) (rest : List Int) (hl : ∀ n, n ∈ ns ↔ n ∈ l.map (·.1) ∨ n ∈ rest) (nr : rest.Nodup) (dj : ∀ n ∈ rest, n ∉ l.map (·.1)) :
    Wf { o.lets l with le := o.le.set d rest } := by
  obtain ⟨e1, e2, e3⟩ := lets_top l o
  have hdl : d < o.le.length := (List.getElem?_eq_some_iff.mp hd).1
  have notin : ∀ (i : Nat) (ms : List Int), i ≠ d → o.le[i]? = some ms → ∀ n ∈ ms, n ∉ ns := fun i ms hi e n hn hn' => by
    have h1 := ((w.own i ms e).2 n hn).2.2
    have h2 := ((w.own d ns hd).2 n hn').2.2
    rw [h1] at h2
    exact hi (by have := Option.some.inj h2; omega)
  refine ⟨by show 1 ≤ (o.lets l).top; rw [e1]; exact w.t1, by show (o.lets l).top ≤ 400; rw [e1]; exact w.t400, by show 1 ≤ (o.le.set d rest).length; rw [List.length_set]; exact w.d1, by show (o.le.set d rest).length ≤ 6; rw [List.length_set]; exact w.d6, by show (o.lets l).sg.length = (o.le.set d rest).length; rw [List.length_set, e2]; exact w.sl, ?_, ?_, ?_⟩
  · intro i ms e
    have e : (o.le.set d rest)[i]? = some ms := e
    show ms.Nodup ∧ ∀ n ∈ ms, 1 ≤ n ∧ n ≤ ((o.lets l).top : Int) ∧ (o.lets l).ho n = some (i : Int)
    rw [e1]
    by_cases c : d = i
    · subst c
      rw [List.getElem?_set_self hdl] at e
      cases e
      refine ⟨nr, fun n hn => ?_⟩
      obtain ⟨q1, q2, q3⟩ := (w.own d ns hd).2 n ((hl n).mpr (.inr hn))
      exact ⟨q1, q2, by rw [lets_ho, if_neg (dj n hn)]; exact q3⟩
    · rw [List.getElem?_set_ne c] at e
      obtain ⟨nd, q⟩ := w.own i ms e
      refine ⟨nd, fun n hn => ?_⟩
      obtain ⟨q1, q2, q3⟩ := q n hn
      exact ⟨q1, q2, by rw [lets_ho, if_neg (fun z => notin i ms (Ne.symm c) e n hn ((hl n).mpr (.inl z)))]; exact q3⟩
  · intro n z e
    have e : (o.lets l).ho n = some z := e
    rw [lets_ho] at e
    by_cases c : n ∈ l.map (·.1)
    · rw [if_pos c] at e
      cases e
    · rw [if_neg c] at e
      obtain ⟨ms, h0, h1, h2⟩ := w.hol n z e
      show ∃ ns, 0 ≤ z ∧ (o.le.set d rest)[z.toNat]? = some ns ∧ n ∈ ns
      by_cases c2 : d = z.toNat
      · refine ⟨rest, h0, by rw [← c2, List.getElem?_set_self hdl], ?_⟩
        rw [← c2, hd] at h1
        cases h1
        exact ((hl n).mp h2).resolve_left c
      · exact ⟨ms, h0, by rw [List.getElem?_set_ne c2]; exact h1, h2⟩
  · intro n e
    have e : (o.lets l).st n = "free" := e
    show (o.lets l).ho n = none
    rw [lets_ho]
    by_cases c : n ∈ l.map (·.1)
    · rw [if_pos c]
    · rw [if_neg c]
      rw [lets_st_out _ _ _ c] at e
      exact w.fre n e
theorem zip_keys (xs : List Int) (ws : List Str) (h : xs.length = ws.length) : (xs.zip ws).map (·.1) = xs := by
  induction xs generalizing ws with
  | nil => rfl
  | cons x r ih =>
    cases ws with
    | nil => cases h
    | cons y s => 
      show x :: (r.zip s).map (·.1) = x :: r
      rw [ih s (by simpa using h)]
theorem wf_report {o : Of} (w : Wf o) {d : Nat} {ns : List Int} (hd : o.le[d]? = some ns) (ws : List Str) (hl : ws.length ≤ ns.length) : Wf (o.report d ws) := by
  have hg : o.le.getD d [] = ns := by rw [List.getD_eq_getElem?_getD, hd]; rfl
  obtain ⟨nd, _⟩ := w.own d ns hd
  have ek : ((ns.take ws.length).zip ws).map (·.1) = ns.take ws.length := zip_keys _ _ (by rw [List.length_take]; omega)
  have nd2 : (ns.take ws.length ++ ns.drop ws.length).Nodup := by rw [List.take_append_drop]; exact nd
  obtain ⟨_, n2, n3⟩ := List.nodup_append.mp nd2
  unfold Of.report
  rw [hg]
  refine wf_lets w hd _ _ (fun n => ?_) n2 (fun n hn => ?_)
  · rw [ek, ← List.mem_append, List.take_append_drop]
  · rw [ek]
    exact fun z => n3 n z n hn rfl
theorem wf_back {o : Of} (w : Wf o) {d : Nat} {ns : List Int} (hd : o.le[d]? = some ns) : Wf (o.back d) := by
  have hg : o.le.getD d [] = ns := by rw [List.getD_eq_getElem?_getD, hd]; rfl
  have ek : (ns.map fun n => (n, ("free" : Str))).map (·.1) = ns := by rw [List.map_map]; exact List.map_id' ns
  unfold Of.back
  rw [hg]
  refine wf_lets w hd _ _ (fun n => ?_) List.nodup_nil (fun n hn => by cases hn)
  rw [ek]
  simp
end Nu
namespace Nu
open PySem PySem.Spec PyProof.Rows L2
theorem cut_to (xs : List V) (k : Nat) : cutV xs none (some (k : Int)) = xs.take k := by
  unfold cutV
  simp only [HT.sIx]
  by_cases c : k ≤ xs.length
  · have e : ¬ ((k : Int) < 0) := by omega
    simp [e, List.take_eq_take_iff]
    try omega
  · have e : ¬ ((k : Int) < 0) := by omega
    simp [e, List.take_eq_take_iff]
    try omega
theorem cut_from (xs : List V) (k : Nat) (h : k ≤ xs.length) : cutV xs (some (k : Int)) none = xs.drop k := by
  unfold cutV
  simp only [HT.sIx]
  have e : ¬ ((k : Int) < 0) := by omega
  simp [e]
  have e2 : min k xs.length = k := Nat.min_eq_left h
  first
    | (rw [e2]; exact List.take_of_length_le (by rw [List.length_drop]; omega))
    | (simp [e2])
theorem take_snoc {α : Type} {l : List α} {i : Nat} {x : α} (h : l[i]? = some x) : l.take (i + 1) = l.take i ++ [x] := by
  rw [List.take_add_one, h]
  rfl
theorem le_at {o : Of} {d : Nat} {ns : List Int} (h : o.le[d]? = some ns) : o.le.getD d [] = ns := by rw [List.getD_eq_getElem?_getD, h]; rfl
theorem Off.has {a : Ad} {H : Hp} {F : Fp} {o : Of} (O : Off a H F o) : ∀ c ∈ F.foot, ∃ u, H c = some u := by
  intro c hc
  unfold Fp.foot at hc
  simp only [List.mem_cons] at hc
  rcases hc with rfl | rfl | rfl | rfl | rfl | hc
  · exact ⟨_, O.ob⟩
  · exact ⟨_, O.st⟩
  · obtain ⟨hk, h3, _⟩ := O.ho
    exact ⟨_, h3⟩
  · exact ⟨_, O.sg⟩
  · exact ⟨_, O.le⟩
  · obtain ⟨ix, hix, rfl⟩ := List.getElem_of_mem hc
    have hix2 : ix < o.le.length := by rw [← O.ll]; exact hix
    exact ⟨_, O.each ix _ _ (List.getElem?_eq_getElem hix) (List.getElem?_eq_getElem hix2)⟩
theorem Off.new {a : Ad} {H : Hp} {F : Fp} {o : Of} (O : Off a H F o) {t : Addr} (ht : H t = none) : t ∉ F.foot := fun z => by
  obtain ⟨u, e⟩ := O.has t z
  rw [ht] at e
  cases e
theorem Keep.free {F : List Addr} {H H' : Hp} (k : Keep F H H') {t : Addr} (h : H' t = none) (hn : t ∉ F) : H t = none := by
  cases e : H t with
  | none => rfl
  | some u =>
    have := k t u e hn
    rw [h] at this
    cases this
/-- the heap behind a method: all else as it was; the office's own objects are the old ones or new ones -/
structure Beh (a : Ad) (H H' : Hp) (F F' : Fp) (o' : Of) : Prop where
  kp : Keep F.foot H H'
  ff : ∀ c ∈ F'.foot, c ∈ F.foot ∨ H c = none
  pp : F'.p = F.p
  of : Off a H' F' o'
theorem mem_foot_set {F : Fp} {d : Nat} {r c : Addr} (h : c ∈ ({ F with ls := F.ls.set d r } : Fp).foot) : c ∈ F.foot ∨ c = r := by
  unfold Fp.foot at h ⊢
  simp only [List.mem_cons] at h ⊢
  rcases h with h | h | h | h | h | h
  · exact .inl (.inl h)
  · exact .inl (.inr (.inl h))
  · exact .inl (.inr (.inr (.inl h)))
  · exact .inl (.inr (.inr (.inr (.inl h))))
  · exact .inl (.inr (.inr (.inr (.inr (.inl h)))))
  · rcases List.mem_or_eq_of_mem_set h with q | q
    · exact .inl (.inr (.inr (.inr (.inr (.inr q)))))
    · exact .inr q
/-- self._lent[desk] = a new list r -/
theorem Beh.newLe {a : Ad} {H0 H : Hp} {F : Fp} {o : Of} {d : Nat} {r : Addr} (O : Off a H F o) (k : Keep F.foot H0 H) (hr : H r = none) (hd : d < F.ls.length) (ns' : List Int) :
    Beh a H0 (upd (upd H r (.lst (ns'.map V.int))) F.aL (.lst ((F.ls.set d r).map V.ref))) F { F with ls := F.ls.set d r } { o with le := o.le.set d ns' } := by
  have hn := O.new hr
  have O1 : Off a (upd H r (.lst (ns'.map V.int))) F o := O.stay fun c hc u e => by rw [upd_ne (fun z => hn (by rw [← z]; exact hc))]; exact e
  refine ⟨(k.trans (keep_upd (.inr hr))).trans (keep_upd (.inl (foot_aL F))), fun c hc => ?_, rfl, O1.newLe hd upd_same hn⟩
  rcases mem_foot_set hc with q | q
  · exact .inl q
  · rw [q]
    exact .inr (k.free hr hn)
theorem ixN_nat {n i : Nat} (h : i < n) : ixN n (i : Int) = some i := by
  unfold ixN
  rw [if_pos (by omega), if_pos (by omega)]
  rfl
section
variable {P : Program} {w : World} {K : PySem.W.Frag} {mg : Str → Option Value} {base : Heap} {a : Ad} {fd : Fd}
/-- self._lent[desk] = value -/
theorem rd_put {H : Hp} {F : Fp} {o : Of} {σ : L2.St} {i j d : Nat} {v : V} {Q : L2.St → Hp → Prop} (T : Txt K mg a fd) (O : Off a H F o) (h0 : σ[i]? = some (some (.ref F.p))) (h1 : σ[j]? = some (some (.int (d : Int)))) (hd : d < F.ls.length)
    (h : Q σ (upd H F.aL (.lst ((F.ls.map V.ref).set d v)))) : gSub (tFld K (tVar i) "_lent") (tVar j) rSetL v σ H Q :=
  ⟨_, h0, F.p, a.C, F.dx, _, _, rfl, O.ob, T.cl, T.na_lent, ofl_lent F, _, h1, F.aL, _, _, d, rfl, rfl, O.le, ixN_nat (by rw [List.length_map]; exact hd), h⟩
def Words (ws : List Str) : Prop := ∀ x ∈ ws, x = "paper" ∨ x = "spoilt"
def spReport (a : Ad) : Sp := fun vs H Q E => ∃ (F : Fp) (o : Of) (d : Int) (aw : Addr) (ws : List Str), vs = [.ref F.p, .int d, .ref aw] ∧ Off a H F o ∧ Wf o ∧ d.natAbs.log2 < 1920 ∧ H aw = some (.lst (ws.map V.str)) ∧ aw ∉ F.foot ∧ 
  Ahead a H o d E fun i => (¬ Words ws → E (.ref a.NoWord) none H) ∧ (Words ws → ((o.le.getD i []).length < ws.length → E (.ref a.Short) none H) ∧
    (ws.length ≤ (o.le.getD i []).length → ∀ F' H' r, Beh a H H' F F' (o.report i ws) → H' r = some (.lst (((o.le.getD i []).take ws.length).map V.int)) → H r = none → r ∉ F'.foot → Q (.ref r) H'))
theorem ok_Office_report (T : Txt K mg a fd) : FnOk P w K mg base (L2.CX P w) 3 a.Office_report fd.Office_report ["self", "desk", "words"] (spReport a) := by
  have G_Office__check_going := ok_Office__check_going (P := P) (w := w) (base := base) T
  have G_Office__let_go := ok_Office__let_go (P := P) (w := w) (base := base) T
  refine T.F_Office_report.okX sc_Office_report (fun vs H Q E h => ?_) (fun cdv A outer s H vs Q E hr h => ?_)
  · obtain ⟨F, o, d, aw, ws, rfl, _⟩ := h
    rfl
  · obtain ⟨F, o, d, aw, ws, rfl, O, W, hd, hw, hwf, k1, k2⟩ := h
    have hu := hu_of hr
    refine ⟨_, (pss_cons (ps_expr (pe_meth (pv 0) T.cl T.m_Office__check_going G_Office__check_going (hr.mono (by decide)) T.b_Office__check_going .nil passU (pa_cons (pv 1) pa_nil)))
    (pss_cons (ps_for passesU rfl (pi_list (pv 2)) (pg_name (i := 3) sc_Office_report.nd rfl (Or.inl rfl))
      (pss_one (ps_if (PW.pt (pw_and (pt_cmpR op_ne (pv 3) (pe_gs (by rfl) T.g_PAPER) (nomark _)) (pw_and1 (pt_cmpR op_ne (pv 3) (pe_gs (by rfl) T.g_SPOILT) (nomark _))))) (pss_one (ps_raise rfl takesU (pmk_own PySem.F.excBase_ValueError T.x_NoWord.x T.x_NoWord.g T.x_NoWord.k (raises_own T.x_NoWord.b T.x_NoWord.t) (by rfl)))) pss_nil)))
    (pss_cons (ps_if (pt_cmpR op_gt (pe_callB call_len_seq (by rfl) T.n_len PySem.boot_len (pa_cons (pv 2) pa_nil)) (pe_callB call_len_seq (by rfl) T.n_len PySem.boot_len (pa_cons (pe_ix ix_list (pe_fld (pv 0) rfl) (pv 1) (fun _ _ => rfl)) pa_nil)) (nomark _)) (pss_one (ps_raise rfl takesU (pmk_ownA PySem.F.excBase_ValueError T.x_Short.x T.x_Short.g T.x_Short.k (raises_own T.x_Short.b T.x_Short.t) (by rfl) (pa_cons (pe_joined (.cons pe_str (.cons (pe_fmt (pv 1)) (.cons pe_str PJ.nil)))) pa_nil)))) pss_nil)
    (pss_cons (ps_set (i := 4) sc_Office_report.nd rfl (Or.inl rfl) (pe_slice sl_list (pe_ix ix_list (pe_fld (pv 0) rfl) (pv 1) (fun _ _ => rfl)) po_none (po_some (pe_callB call_len_seq (by rfl) T.n_len PySem.boot_len (pa_cons (pv 2) pa_nil)))))
    (pss_cons (ps_for passesU rfl (pi_zip (by rfl) T.n_zip (pa_cons (pv 4) (pa_cons (pv 2) pa_nil))) (pg_tup (by rfl) (pgs_cons (pg_name (i := 5) sc_Office_report.nd rfl (Or.inl rfl)) (pgs_cons (pg_name (i := 3) sc_Office_report.nd rfl (Or.inl rfl)) pgs_nil)))
      (pss_one (ps_expr (pe_meth (pv 0) T.cl T.m_Office__let_go G_Office__let_go (hr.mono (by decide)) T.b_Office__let_go .nil pass0 (pa_cons (pv 5) (pa_cons (pv 3) pa_nil))))))
    (pss_cons (ps_asg (pe_slice sl_list (pe_ix ix_list (pe_fld (pv 0) rfl) (pv 1) (fun _ _ => rfl)) (po_some (pe_callB call_len_seq (by rfl) T.n_len PySem.boot_len (pa_cons (pv 2) pa_nil))) po_none) (pg_sub (pe_fld (pv 0) rfl) (pv 1) set_list))
    (pss_one (ps_ret (pv 4))))))))), ?_⟩
    refine ⟨_, rfl, F.p, F.dx, _, rfl, O.ob, ofl_m F, _, rfl, F, o, d, rfl, O, hd, k1, fun i z e1 e2 => ⟨fun c => (k2 i z e1 e2).1 c, fun c => ?_⟩⟩
    obtain ⟨k3, k4⟩ := (k2 i z e1 e2).2 c
    subst e1
    have hi : i < o.le.length := by
      rw [← W.sl]
      exact (List.getElem?_eq_some_iff.mp e2).1
    have hns : o.le[i]? = some o.le[i] := List.getElem?_eq_getElem hi
    have hg := le_at hns
    -- the words
    refine ⟨_, rfl, aw, rfl, ⟨_, SqL.of hw⟩, for_list (K := K) (a := aw) (xs := ws.map V.str) (fun j σ H' => ∃ v : Option V, σ = [some (.ref F.p), some (.int (i : Int)), some (.ref aw), v, none, none] ∧ H' = H ∧ Words (ws.take j))
      ⟨none, rfl, rfl, fun x hx => by simp at hx⟩ (fun j σ H' _ ⟨_, _, e, _⟩ => by rw [e]; exact SqL.of hw) ?_ ?_⟩
    · rintro j x σ H' hj ⟨v, rfl, rfl, hok⟩
      obtain ⟨y, hy, rfl⟩ : ∃ y, ws[j]? = some y ∧ x = V.str y := by
        rw [List.getElem?_map] at hj
        cases e : ws[j]? with
        | none => rw [e] at hj; cases hj
        | some y => rw [e] at hj; exact ⟨y, rfl, (Option.some.inj hj).symm⟩
      have hmem : y ∈ ws := List.mem_of_getElem? hy
      refine ⟨_, rfl, rfl, _, rfl, ?_⟩
      by_cases c1 : y = "paper"
      · rw [dneF c1]
        refine iteF (iteF ?_)
        exact ⟨_, rfl, rfl, by rw [take_snoc hy]; intro x hx; rcases List.mem_append.mp hx with q | q; exact hok x q; exact .inl (by rw [List.mem_singleton.mp q]; exact c1)⟩
      · rw [dneT c1]
        refine iteT ?_
        refine ⟨_, rfl, rfl, _, rfl, ?_⟩
        by_cases c2 : y = "spoilt"
        · rw [dneF c2]
          refine iteF ?_
          exact ⟨_, rfl, rfl, by rw [take_snoc hy]; intro x hx; rcases List.mem_append.mp hx with q | q; exact hok x q; exact .inr (by rw [List.mem_singleton.mp q]; exact c2)⟩
        · rw [dneT c2]
          refine iteT ?_
          exact k3 fun q => (q y hmem).elim c1 c2
    · rintro σ H' ⟨v, rfl, rfl, hok⟩
      have hok' : Words ws := by
        rw [List.length_map, List.take_length] at hok
        exact hok
      obtain ⟨k5, k6⟩ := k4 hok'
      have hil : i < F.ls.length := by rw [O.ll]; exact hi
      have hl1 : F.ls[i]? = some F.ls[i] := List.getElem?_eq_getElem hil
      have hl := O.each i _ _ hl1 hns
      -- if len(words) > len(self._lent[desk])
      refine ⟨_, rfl, aw, _, rfl, .inl (SqL.of hw), ?_⟩
      refine rd_lent1 T O rfl rfl hl1 ?_
      refine ⟨_, _, rfl, .inl (SqL.of hl), _, _, rfl, rfl, _, rfl, ?_⟩
      rw [List.length_map, List.length_map]
      rw [hg] at k5 k6
      by_cases c1 : ((o.le[i].length : Nat) : Int) < (ws.length : Int)
      · rw [decide_eq_true c1]
        refine iteT ?_
        exact js_s (b := 0) (Nat.le_refl _) (by decide +kernel) (by omega) fun _ ha => js_f rfl hd ha (by omega) fun _ ha => js_s ha (by decide +kernel) (by omega) fun _ _ => ⟨one_le _, k5 (by omega)⟩
      · rw [decide_eq_false c1]
        refine iteF ?_
        have hle : ws.length ≤ o.le[i].length := by omega
        -- numbers = self._lent[desk][:len(words)]
        refine rd_lent1 T O rfl rfl hl1 ?_
        have lw : (ws.map V.str).length = ws.length := List.length_map _
        refine ⟨_, rfl, aw, _, rfl, .inl (SqL.of hw), _, rfl, _, _, rfl, SqL.of hl, fun b nb => ?_⟩
        have ec : cutV (o.le[i].map V.int) none (some (((ws.map V.str).length : Nat) : Int)) = (o.le[i].take ws.length).map V.int := by
          rw [cut_to, lw, List.map_take]
        rw [ec]
        have bF : b ∉ F.foot := O.new nb
        have ba : b ≠ aw := fun q => by rw [q, hw] at nb; cases nb
        have lt : (o.le[i].take ws.length).length = ws.length := by rw [List.length_take]; omega
        have Ob : Off a (upd H' b (.lst ((o.le[i].take ws.length).map V.int))) F o := O.stay fun c hc u e => by rw [upd_ne (fun q => bF (by rw [← q]; exact hc))]; exact e
        have hwb : (upd H' b (.lst ((o.le[i].take ws.length).map V.int))) aw = some (.lst (ws.map V.str)) := by rw [upd_ne ba.symm]; exact hw
        obtain ⟨nd, own⟩ := W.own i _ hns
        -- for number, word in zip(numbers, words)
        refine ⟨_, rfl, _, rfl, b, aw, _, _, rfl, SqL.of upd_same, SqL.of hwb, RZ.for_zipL (K := K) (a := b) (b := aw) (xs := (o.le[i].take ws.length).map V.int) (ys := ws.map V.str) (by rw [List.length_map, lw, lt])
          (fun j σ H2 => ∃ (v n : Option V), σ = [some (.ref F.p), some (.int (i : Int)), some (.ref aw), v, some (.ref b), n] ∧ Keep F.foot (upd H' b (.lst ((o.le[i].take ws.length).map V.int))) H2 ∧ Off a H2 F (o.lets (((o.le[i].take ws.length).zip ws).take j)))
          ⟨_, _, rfl, Keep.refl _ _, Ob⟩ (fun j σ H2 ⟨_, _, _, kp, _⟩ => ⟨SqL.of (kp _ _ upd_same bF), SqL.of (kp _ _ hwb hwf)⟩) ?_ ?_⟩
        · rintro j x y Tt σ H2 hx hy ⟨v, n, rfl, kp, O2⟩ hT
          obtain ⟨nx, hnx, rfl⟩ : ∃ nx, (o.le[i].take ws.length)[j]? = some nx ∧ x = V.int nx := by
            rw [List.getElem?_map] at hx
            cases e : (o.le[i].take ws.length)[j]? with
            | none => rw [e] at hx; cases hx
            | some y => rw [e] at hx; exact ⟨y, rfl, (Option.some.inj hx).symm⟩
          obtain ⟨wy, hwy, rfl⟩ : ∃ wy, ws[j]? = some wy ∧ y = V.str wy := by
            rw [List.getElem?_map] at hy
            cases e : ws[j]? with
            | none => rw [e] at hy; cases hy
            | some y => rw [e] at hy; exact ⟨y, rfl, (Option.some.inj hy).symm⟩
          have TF : Tt ∉ F.foot := O2.new hT
          have O3 : Off a (upd H2 Tt (.tup [V.int nx, V.str wy])) F (o.lets (((o.le[i].take ws.length).zip ws).take j)) := O2.stay fun c hc u e => by rw [upd_ne (fun q => TF (by rw [← q]; exact hc))]; exact e
          have hin : nx ∈ o.le[i] := List.mem_of_mem_take (List.mem_of_getElem? hnx)
          obtain ⟨b1, b2, b3⟩ := own nx hin
          have hz : ((o.le[i].take ws.length).zip ws)[j]? = some (nx, wy) := List.getElem?_zip_eq_some.mpr ⟨hnx, hwy⟩
          have ek : ((o.le[i].take ws.length).zip ws).map (·.1) = o.le[i].take ws.length := zip_keys _ _ lt
          have notyet : nx ∉ (((o.le[i].take ws.length).zip ws).take j).map (·.1) := by
            rw [List.map_take, ek]
            intro hm
            obtain ⟨j', hj', e⟩ := List.getElem_of_mem hm
            have h1 : (o.le[i].take ws.length)[j']? = some nx := by
              rw [List.length_take] at hj'
              rw [← e, List.getElem_take]
              exact List.getElem?_eq_getElem (by omega)
            have ndt : (o.le[i].take ws.length).Nodup := nd.sublist (List.take_sublist _ _)
            have := (List.getElem?_inj (List.getElem?_eq_some_iff.mp h1).1 ndt).mp (h1.trans hnx.symm)
            rw [List.length_take] at hj'
            omega
          have tp := lets_top (((o.le[i].take ws.length).zip ws).take j) o
          refine ⟨Tt, _, rfl, SqT.of upd_same, rfl, _, _, rfl, _, _, rfl, rfl, ?_⟩
          refine ⟨_, rfl, F.p, F.dx, _, rfl, O3.ob, ofl_m F, _, rfl, _, rfl, F, _, nx, wy, rfl, O3, by rw [tp.1]; exact ⟨b1, b2⟩, by rw [tp.1]; exact W.t400, ⟨(i : Int), by rw [lets_ho, if_neg notyet]; exact b3⟩, fun H4 k4' O4 => ?_⟩
          refine ⟨_, _, rfl, (kp.trans (keep_upd (.inr hT))).trans k4', ?_⟩
          rw [take_snoc hz, lets_snoc]
          exact O4
        · rintro σ H2 ⟨v, n, rfl, kp, O2⟩
          have ez : ((o.le[i].take ws.length).zip ws).take ((o.le[i].take ws.length).map V.int).length = (o.le[i].take ws.length).zip ws := List.take_of_length_le (by rw [List.length_map, List.length_zip]; omega)
          rw [ez] at O2
          have tp := lets_top ((o.le[i].take ws.length).zip ws) o
          have hns2 : (o.lets ((o.le[i].take ws.length).zip ws)).le[i]? = some o.le[i] := by rw [tp.2.2]; exact hns
          have hl2 := O2.each i _ _ hl1 hns2
          have hw2 := kp _ _ hwb hwf
          -- self._lent[desk] = self._lent[desk][len(words):]
          refine rd_lent1 T O2 rfl rfl hl1 ?_
          refine ⟨_, rfl, aw, _, rfl, .inl (SqL.of hw2), _, rfl, _, _, rfl, SqL.of hl2, fun r nr => ?_⟩
          have ec2 : cutV (o.le[i].map V.int) (some (((ws.map V.str).length : Nat) : Int)) none = (o.le[i].drop ws.length).map V.int := by
            rw [cut_from _ _ (by rw [lw, List.length_map]; exact hle), lw, List.map_drop]
          rw [ec2]
          have rF := O2.new nr
          have O3 : Off a (upd H2 r (.lst ((o.le[i].drop ws.length).map V.int))) F (o.lets ((o.le[i].take ws.length).zip ws)) := O2.stay fun c hc u e => by rw [upd_ne (fun q => rF (by rw [← q]; exact hc))]; exact e
          refine rd_put T O3 rfl rfl hil ?_
          rw [← List.map_set]
          have bl2 := kp _ _ upd_same bF
          have br : b ≠ r := fun q => by rw [q, nr] at bl2; cases bl2
          have B := Beh.newLe (d := i) O2 ((Keep.trans (keep_upd (.inr nb)) kp : Keep F.foot H' H2)) nr hil (o.le[i].drop ws.length)
          have eo : o.report i ws = { (o.lets ((o.le[i].take ws.length).zip ws)) with le := (o.lets ((o.le[i].take ws.length).zip ws)).le.set i (o.le[i].drop ws.length) } := by
            unfold Of.report
            rw [hg, tp.2.2]
          refine ⟨_, rfl, k6 hle { F with ls := F.ls.set i r } _ b (by rw [eo]; exact B) ?_ nb fun q => ?_⟩
          · rw [upd_ne (fun q => bF (by rw [q]; exact foot_aL F)), upd_ne br]
            exact bl2
          · rcases mem_foot_set q with q | q
            · exact bF q
            · exact br q
end
end Nu
namespace Nu
open PySem PySem.Spec PyProof.Rows L2
theorem Off.upd_new {a : Ad} {H : Hp} {F : Fp} {o : Of} (O : Off a H F o) {r : Addr} {u : HO} (nr : H r = none) : Off a (upd H r u) F o := by
  have hn := O.new nr
  exact O.stay fun c hc v e => by rw [upd_ne (fun q => hn (by rw [← q]; exact hc))]; exact e
theorem map_int_at {ns : List Int} {j : Nat} {x : V} (h : (ns.map V.int)[j]? = some x) : ∃ n, ns[j]? = some n ∧ x = V.int n := by
  rw [List.getElem?_map] at h
  cases e : ns[j]? with
  | none => rw [e] at h; cases h
  | some y => rw [e] at h; exact ⟨y, rfl, (Option.some.inj h).symm⟩
section
variable {P : Program} {w : World} {K : PySem.W.Frag} {mg : Str → Option Value} {base : Heap} {a : Ad} {fd : Fd}
def spBack (a : Ad) : Sp := fun vs H Q E => ∃ (F : Fp) (o : Of) (d : Int), vs = [.ref F.p, .int d] ∧ Off a H F o ∧ Wf o ∧ d.natAbs.log2 < 1920 ∧
  Ahead a H o d E fun i => ∀ (F' : Fp) (H' : Hp) (r : Addr) (ns' : List Int), Beh a H H' F F' (o.back i) → ns'.Perm (o.le.getD i []) → ns'.Pairwise (· ≤ ·) → H' r = some (.lst (ns'.map V.int)) → H r = none → r ∉ F'.foot → Q (.ref r) H'
theorem ok_Office_back (T : Txt K mg a fd) : FnOk P w K mg base (L2.CX P w) 3 a.Office_back fd.Office_back ["self", "desk"] (spBack a) := by
  have G_Office__check_going := ok_Office__check_going (P := P) (w := w) (base := base) T
  have G_Office__let_go := ok_Office__let_go (P := P) (w := w) (base := base) T
  refine T.F_Office_back.okX sc_Office_back (fun vs H Q E h => ?_) (fun cdv A outer s H vs Q E hr h => ?_)
  · obtain ⟨F, o, d, rfl, _⟩ := h
    rfl
  · obtain ⟨F, o, d, rfl, O, W, hd, k1, k2⟩ := h
    have hu := hu_of hr
    refine ⟨_, (pss_cons (ps_expr (pe_meth (pv 0) T.cl T.m_Office__check_going G_Office__check_going (hr.mono (by decide)) T.b_Office__check_going .nil passU (pa_cons (pv 1) pa_nil)))
    (pss_cons (ps_set (i := 2) sc_Office_back.nd rfl (Or.inl rfl) (pe_ix ix_list (pe_fld (pv 0) rfl) (pv 1) (fun _ _ => rfl)))
    (pss_cons (ps_for passesU rfl (pi_list (pv 2)) (pg_name (i := 3) sc_Office_back.nd rfl (Or.inl rfl))
      (pss_one (ps_expr (pe_meth (pv 0) T.cl T.m_Office__let_go G_Office__let_go (hr.mono (by decide)) T.b_Office__let_go .nil pass0 (pa_cons (pv 3) (pa_cons (pe_gs (by rfl) T.g_FREE) pa_nil))))))
    (pss_cons (ps_asg (pe_lst pa_nil) (pg_sub (pe_fld (pv 0) rfl) (pv 1) set_list))
    (pss_one (ps_ret (pe_callB cr_sortedI (by rfl) T.n_sorted (by decide +kernel) (pa_cons (pv 2) pa_nil)))))))), ?_⟩
    refine ⟨_, rfl, F.p, F.dx, _, rfl, O.ob, ofl_m F, _, rfl, F, o, d, rfl, O, hd, k1, fun i z e1 e2 => ⟨fun c => (k2 i z e1 e2).1 c, fun c => ?_⟩⟩
    have k3 := (k2 i z e1 e2).2 c
    subst e1
    have hi : i < o.le.length := by
      rw [← W.sl]
      exact (List.getElem?_eq_some_iff.mp e2).1
    have hns : o.le[i]? = some o.le[i] := List.getElem?_eq_getElem hi
    have hg := le_at hns
    have hil : i < F.ls.length := by rw [O.ll]; exact hi
    have hl1 : F.ls[i]? = some F.ls[i] := List.getElem?_eq_getElem hil
    have hl := O.each i _ _ hl1 hns
    obtain ⟨nd, own⟩ := W.own i _ hns
    dsimp only at k3
    rw [hg] at k3
    refine rd_lent1 T O rfl rfl hl1 ?_
    refine ⟨_, rfl, F.ls[i], rfl, ⟨_, SqL.of hl⟩, for_list (K := K) (a := F.ls[i]) (xs := o.le[i].map V.int)
      (fun j σ H2 => ∃ n : Option V, σ = [some (.ref F.p), some (.int (i : Int)), some (.ref F.ls[i]), n] ∧ Keep F.foot H H2 ∧ Off a H2 F (o.lets ((o.le[i].map fun n => (n, ("free" : Str))).take j)))
      ⟨none, rfl, Keep.refl _ _, O⟩ (fun j σ H2 _ ⟨_, _, _, O2⟩ => SqL.of (O2.each i _ _ hl1 (by rw [(lets_top _ _).2.2]; exact hns))) ?_ ?_⟩
    · rintro j x σ H2 hx ⟨n, rfl, kp, O2⟩
      obtain ⟨nx, hnx, rfl⟩ := map_int_at hx
      have hin : nx ∈ o.le[i] := List.mem_of_getElem? hnx
      obtain ⟨b1, b2, b3⟩ := own nx hin
      have hz : (o.le[i].map fun n => (n, ("free" : Str)))[j]? = some (nx, ("free" : Str)) := by rw [List.getElem?_map, hnx]; rfl
      have notyet : nx ∉ ((o.le[i].map fun n => (n, ("free" : Str))).take j).map (·.1) := by
        rw [List.map_take, List.map_map]
        have e0 : (o.le[i].map ((fun p : Int × Str => p.1) ∘ fun n => (n, ("free" : Str)))) = o.le[i] := List.map_id' _
        rw [e0]
        intro hm
        obtain ⟨j', hj', e⟩ := List.getElem_of_mem hm
        rw [List.length_take] at hj'
        have h1 : o.le[i][j']? = some nx := by
          rw [← e, List.getElem_take]
          exact List.getElem?_eq_getElem (by omega)
        have := (List.getElem?_inj (List.getElem?_eq_some_iff.mp h1).1 nd).mp (h1.trans hnx.symm)
        omega
      have tp := lets_top ((o.le[i].map fun n => (n, ("free" : Str))).take j) o
      refine ⟨_, rfl, F.p, F.dx, _, rfl, O2.ob, ofl_m F, _, rfl, F, _, nx, "free", rfl, O2, by rw [tp.1]; exact ⟨b1, b2⟩, by rw [tp.1]; exact W.t400, ⟨(i : Int), by rw [lets_ho, if_neg notyet]; exact b3⟩, fun H4 k4' O4 => ?_⟩
      refine ⟨_, rfl, kp.trans k4', ?_⟩
      rw [take_snoc hz, lets_snoc]
      exact O4
    · rintro σ H2 ⟨n, rfl, kp, O2⟩
      have ez : (o.le[i].map fun n => (n, ("free" : Str))).take (o.le[i].map V.int).length = o.le[i].map fun n => (n, ("free" : Str)) := List.take_of_length_le (by rw [List.length_map, List.length_map]; omega)
      rw [ez] at O2
      have tp := lets_top (o.le[i].map fun n => (n, ("free" : Str))) o
      have hns2 : (o.lets (o.le[i].map fun n => (n, ("free" : Str)))).le[i]? = some o.le[i] := by rw [tp.2.2]; exact hns
      have hl2 := O2.each i _ _ hl1 hns2
      refine ⟨Nat.zero_le _, fun r nr => ?_⟩
      have rF := O2.new nr
      have O3 : Off a (upd H2 r (.lst [])) F _ := O2.upd_new nr
      refine rd_put T O3 rfl rfl hil ?_
      rw [← List.map_set]
      have B := Beh.newLe (d := i) O2 kp nr hil []
      have eo : o.back i = { (o.lets (o.le[i].map fun n => (n, ("free" : Str)))) with le := (o.lets (o.le[i].map fun n => (n, ("free" : Str)))).le.set i [] } := by
        unfold Of.back
        rw [hg, tp.2.2]
      -- return sorted(numbers)
      have lr : F.ls[i] ≠ r := fun q => by rw [q, nr] at hl2; cases hl2
      have la : F.ls[i] ≠ F.aL := fun q => O.ne.aL_ls (by rw [← q]; exact List.mem_of_getElem? hl1)
      have hl3 : (upd (upd H2 r (.lst [])) F.aL (.lst ((F.ls.set i r).map V.ref))) F.ls[i] = some (.lst (o.le[i].map V.int)) := by
        rw [upd_ne la, upd_ne lr]
        exact hl2
      refine ⟨_, rfl, F.ls[i], _, rfl, SqL.of hl3, fun ns' p pm pw hp => ?_⟩
      have pF := B.of.new hp
      refine k3 { F with ls := F.ls.set i r } _ p ns' ⟨fun c u e hc => ?_, B.ff, rfl, by rw [eo]; exact B.of.upd_new hp⟩ pm pw upd_same ?_ pF
      · have h1 := B.kp c u e hc
        rw [upd_ne (fun q => by rw [q] at h1; exact absurd (h1.symm.trans hp) (by simp))]
        exact h1
      · refine B.kp.free hp fun q => ?_
        obtain ⟨u, hu1⟩ := O2.has p q
        by_cases c1 : p = F.aL
        · exact pF (by rw [c1]; exact foot_aL _)
        · rw [upd_ne c1] at hp
          by_cases c2 : p = r
          · rw [c2, upd_same] at hp
            cases hp
          · rw [upd_ne c2, hu1] at hp
            cases hp
def spRest (a : Ad) : Sp := fun vs H Q E => ∃ (F : Fp) (o : Of) (d : Int), vs = [.ref F.p, .int d] ∧ Off a H F o ∧ Wf o ∧ d.natAbs.log2 < 1920 ∧ (¬ (0 ≤ d ∧ d < (o.sg.length : Int)) → E (.ref a.NoDesk) none H) ∧
  ∀ (i : Nat) (z : Str), d = (i : Int) → o.sg[i]? = some z → ∀ r, H r = none → Q (.ref r) (upd H r (.lst (if z = "stopped" then (o.le.getD i []).map V.int else [])))
theorem ok_Office_rest (T : Txt K mg a fd) : FnOk P w K mg base (L2.CX P w) 2 a.Office_rest fd.Office_rest ["self", "desk"] (spRest a) := by
  have G_Office__check_desk := ok_Office__check_desk (P := P) (w := w) (base := base) T
  have G_Office_has_rest := ok_Office_has_rest (P := P) (w := w) (base := base) T
  refine T.F_Office_rest.okX sc_Office_rest (fun vs H Q E h => ?_) (fun cdv A outer s H vs Q E hr h => ?_)
  · obtain ⟨F, o, d, rfl, _⟩ := h
    rfl
  · obtain ⟨F, o, d, rfl, O, W, hn, k1, k2⟩ := h
    have hu := hu_of hr
    refine ⟨_, (pss_cons (ps_expr (pe_meth (pv 0) T.cl T.m_Office__check_desk G_Office__check_desk (hr.mono (by decide)) T.b_Office__check_desk .nil passU (pa_cons (pv 1) pa_nil)))
    (pss_cons (ps_if (pt_not (pt_val (pe_meth (pv 0) T.cl T.m_Office_has_rest G_Office_has_rest (hr.mono (by decide)) T.b_Office_has_rest .nil pass0 (pa_cons (pv 1) pa_nil)))) (pss_one (ps_ret (pe_lst pa_nil))) pss_nil)
    (pss_one (ps_ret (pe_callTy call_list_of (by rfl) T.n_list (by decide +kernel) (pa_cons (pe_ix ix_list (pe_fld (pv 0) rfl) (pv 1) (fun _ _ => rfl)) pa_nil)))))), ?_⟩
    refine ⟨_, rfl, F.p, F.dx, _, rfl, O.ob, ofl_m F, _, rfl, F, o, d, rfl, O, hn, k1, fun c => ?_⟩
    obtain ⟨i, rfl⟩ := Int.eq_ofNat_of_zero_le c.1
    have hi : i < o.sg.length := by omega
    have e : o.sg[i]? = some o.sg[i] := List.getElem?_eq_getElem hi
    have k3 := k2 i _ rfl e
    have hi2 : i < o.le.length := by rw [← W.sl]; exact hi
    have hns : o.le[i]? = some o.le[i] := List.getElem?_eq_getElem hi2
    have hl1 : F.ls[i]? = some (F.ls[i]'(by rw [O.ll]; exact hi2)) := List.getElem?_eq_getElem _
    have hl := O.each i _ _ hl1 hns
    rw [le_at hns] at k3
    refine ⟨_, rfl, F.p, F.dx, _, rfl, O.ob, ofl_m F, _, rfl, F, o, i, _, rfl, O, e, _, rfl, ?_⟩
    by_cases c3 : o.sg[i] = "stopped"
    · rw [decide_eq_true c3]
      refine iteF ?_
      refine rd_lent1 T O rfl rfl hl1 ?_
      refine ⟨_, _, rfl, .inl (SqL.of hl), fun r hr => ?_⟩
      have := k3 r hr
      rw [if_pos c3] at this
      exact this
    · rw [decide_eq_false c3]
      refine iteT ?_
      refine ⟨Nat.zero_le _, fun r hr => ?_⟩
      have := k3 r hr
      rw [if_neg c3] at this
      exact this
end
end Nu
namespace Nu
open PySem PySem.Spec PyProof.Rows L2
section
variable {P : Program} {w : World} {K : PySem.W.Frag} {mg : Str → Option Value} {base : Heap} {a : Ad} {fd : Fd}
def spOpen (a : Ad) : Sp := fun vs H Q E => ∃ (F : Fp) (o : Of) (d : Int), vs = [.ref F.p, .int d] ∧ Off a H F o ∧ Wf o ∧ d.natAbs.log2 < 1920 ∧ (¬ (0 ≤ d ∧ d < (o.sg.length : Int)) → E (.ref a.NoDesk) none H) ∧
  ∀ (i : Nat) (z : Str), d = (i : Int) → o.sg[i]? = some z → ∀ r, H r = none → Q (.ref r) (upd H r (.lst (if z = "going" then (o.le.getD i []).map V.int else [])))
theorem ok_Office_open_numbers (T : Txt K mg a fd) : FnOk P w K mg base (L2.CX P w) 2 a.Office_open_numbers fd.Office_open_numbers ["self", "desk"] (spOpen a) := by
  have G_Office__check_desk := ok_Office__check_desk (P := P) (w := w) (base := base) T
  refine T.F_Office_open_numbers.okX sc_Office_open_numbers (fun vs H Q E h => ?_) (fun cdv A outer s H vs Q E hr h => ?_)
  · obtain ⟨F, o, d, rfl, _⟩ := h
    rfl
  · obtain ⟨F, o, d, rfl, O, W, hn, k1, k2⟩ := h
    have hu := hu_of hr
    refine ⟨_, (pss_cons (ps_expr (pe_meth (pv 0) T.cl T.m_Office__check_desk G_Office__check_desk (hr.mono (by decide)) T.b_Office__check_desk .nil passU (pa_cons (pv 1) pa_nil)))
    (pss_cons (ps_if (pt_cmpR op_ne (pe_ix ix_list (pe_fld (pv 0) rfl) (pv 1) (fun _ _ => rfl)) (pe_gs (by rfl) T.g_GOING) (nomark _)) (pss_one (ps_ret (pe_lst pa_nil))) pss_nil)
    (pss_one (ps_ret (pe_callTy call_list_of (by rfl) T.n_list (by decide +kernel) (pa_cons (pe_ix ix_list (pe_fld (pv 0) rfl) (pv 1) (fun _ _ => rfl)) pa_nil)))))), ?_⟩
    refine ⟨_, rfl, F.p, F.dx, _, rfl, O.ob, ofl_m F, _, rfl, F, o, d, rfl, O, hn, k1, fun c => ?_⟩
    obtain ⟨i, rfl⟩ := Int.eq_ofNat_of_zero_le c.1
    have hi : i < o.sg.length := by omega
    have e : o.sg[i]? = some o.sg[i] := List.getElem?_eq_getElem hi
    have k3 := k2 i _ rfl e
    have hi2 : i < o.le.length := by rw [← W.sl]; exact hi
    have hns : o.le[i]? = some o.le[i] := List.getElem?_eq_getElem hi2
    have hl1 : F.ls[i]? = some (F.ls[i]'(by rw [O.ll]; exact hi2)) := List.getElem?_eq_getElem _
    have hl := O.each i _ _ hl1 hns
    rw [le_at hns] at k3
    refine rd_stage T O rfl rfl e ?_
    refine ⟨rfl, _, rfl, ?_⟩
    by_cases c3 : o.sg[i] = "going"
    · rw [dneF c3]
      refine iteF ?_
      refine rd_lent1 T O rfl rfl hl1 ?_
      refine ⟨_, _, rfl, .inl (SqL.of hl), fun r hr => ?_⟩
      have := k3 r hr
      rw [if_pos c3] at this
      exact this
    · rw [dneT c3]
      refine iteT ?_
      refine ⟨Nat.zero_le _, fun r hr => ?_⟩
      have := k3 r hr
      rw [if_neg c3] at this
      exact this
end
end Nu
namespace Nu
open PySem PySem.Spec PyProof.Rows L2
def Of.new (top desks : Nat) : Of := ⟨top, fun _ => "free", fun _ => none, List.replicate desks "going", List.replicate desks []⟩
theorem wf_new {t d : Nat} (h1 : 1 ≤ t) (h2 : t ≤ 400) (h3 : 1 ≤ d) (h4 : d ≤ 6) : Wf (Of.new t d) := by
  refine ⟨h1, h2, by show 1 ≤ (List.replicate d ([] : List Int)).length; rw [List.length_replicate]; exact h3, by show (List.replicate d ([] : List Int)).length ≤ 6; rw [List.length_replicate]; exact h4, by show (List.replicate d ("going" : Str)).length = (List.replicate d ([] : List Int)).length; rw [List.length_replicate, List.length_replicate], fun i ns e => ?_, (fun n d e => by cases e), fun _ _ => rfl⟩
  have e : (List.replicate d ([] : List Int))[i]? = some ns := e
  have : ns = [] := (List.mem_replicate.mp (List.mem_of_getElem? e)).2
  subst this
  exact ⟨List.nodup_nil, fun n hn => by cases hn⟩
theorem repl_succ {α : Type} (n : Nat) (x : α) : List.replicate (n + 1) x = List.replicate n x ++ [x] := List.replicate_succ'
section
variable {P : Program} {w : World} {K : PySem.W.Frag} {mg : Str → Option Value} {base : Heap} {a : Ad} {fd : Fd}
def spInit (a : Ad) : Sp := fun vs H Q E => ∃ (p dx : Addr) (t d : Int), vs = [.ref p, .int t, .int d] ∧ H p = some (.ins a.C dx []) ∧ t.natAbs.log2 < 1920 ∧ d.natAbs.log2 < 1920 ∧
  (¬ (1 ≤ t ∧ t ≤ 400) → E (.ref a.NoOffice) none H) ∧ (1 ≤ t ∧ t ≤ 400 → ¬ (1 ≤ d ∧ d ≤ 6) → E (.ref a.NoOffice) none H) ∧
  (1 ≤ t ∧ t ≤ 400 → 1 ≤ d ∧ d ≤ 6 → ∀ (F : Fp) (H' : Hp), F.p = p → F.dx = dx → (∀ c ∈ F.foot, c = p ∨ H c = none) → Keep [p] H H' → Off a H' F (Of.new t.toNat d.toNat) → Q .non H')
theorem ok_Office_init (T : Txt K mg a fd) : FnOk P w K mg base (L2.CX P w) 1 a.Office_init fd.Office_init ["self", "top", "desks"] (spInit a) := by
  refine T.F_Office_init.okX sc_Office_init (fun vs H Q E h => ?_) (fun cdv A outer s H vs Q E hr h => ?_)
  · obtain ⟨p, dx, t, d, rfl, _⟩ := h
    rfl
  · obtain ⟨p, dx, t, d, rfl, hp, ht, hd, k1, k2, k3⟩ := h
    have hu := hu_of hr
    refine ⟨_, (pss_cons (ps_if (PW.pt (pw_or (pt_cmpR op_lt (pv 1) pe_int (nomark _)) (pw_or1 (pt_cmpR op_gt (pv 1) (pe_gi (by rfl) T.g_MOST_NUMBERS) (nomark _))))) (pss_one (ps_raise rfl takesU (pmk_ownA PySem.F.excBase_ValueError T.x_NoOffice.x T.x_NoOffice.g T.x_NoOffice.k (raises_own T.x_NoOffice.b T.x_NoOffice.t) (by rfl) (pa_cons (pe_joined (.cons pe_str (.cons (pe_fmt (pv 1)) (.cons pe_str PJ.nil)))) pa_nil)))) pss_nil)
    (pss_cons (ps_if (PW.pt (pw_or (pt_cmpR op_lt (pv 2) pe_int (nomark _)) (pw_or1 (pt_cmpR op_gt (pv 2) (pe_gi (by rfl) T.g_MOST_DESKS) (nomark _))))) (pss_one (ps_raise rfl takesU (pmk_ownA PySem.F.excBase_ValueError T.x_NoOffice.x T.x_NoOffice.g T.x_NoOffice.k (raises_own T.x_NoOffice.b T.x_NoOffice.t) (by rfl) (pa_cons (pe_joined (.cons pe_str (.cons (pe_fmt (pv 2)) (.cons pe_str PJ.nil)))) pa_nil)))) pss_nil)
    (pss_cons (ps_fld (pv 0) (pe_dc (own := [("number", 3)]) (g := gName 3) (by rfl) sc_Office_init.nd (pi_range2 (by rfl) T.n_range (pa_cons pe_int (pa_cons (pe_op op_add (pv 1) pe_int) pa_nil))) (blkOk_by (own := [("number", 3)]) (N := ["self", "top", "desks", "number", "desk"]) (sc := defScope s_Office_init) (by decide +kernel)) (fun _ _ _ _ _ => pg_name (i := 3) sc_Office_init.nd rfl (Or.inl rfl)) (fun _ _ _ _ _ => pts_nil) (fun _ _ _ _ _ => (pv 3)) (fun _ _ _ _ _ => (pe_gs (by rfl) T.g_FREE))) rfl)
    (pss_cons (ps_fld (pv 0) pe_dnewK rfl)
    (pss_cons (ps_fld (pv 0) (pe_lc (own := [("desk", 4)]) (g := gName 4) (by rfl) sc_Office_init.nd (pi_range1 (by rfl) T.n_range (pa_cons (pv 2) pa_nil)) (blkOk_by (own := [("desk", 4)]) (N := ["self", "top", "desks", "number", "desk"]) (sc := defScope s_Office_init) (by decide +kernel)) (fun _ _ _ _ _ => pg_name (i := 4) sc_Office_init.nd rfl (Or.inl rfl)) (fun _ _ _ _ _ => pts_nil) (fun _ _ _ _ _ => (pe_gs (by rfl) T.g_GOING))) rfl)
    (pss_one (ps_fld (pv 0) (pe_lc (own := [("desk", 4)]) (g := gName 4) (by rfl) sc_Office_init.nd (pi_range1 (by rfl) T.n_range (pa_cons (pv 2) pa_nil)) (blkOk_by (own := [("desk", 4)]) (N := ["self", "top", "desks", "number", "desk"]) (sc := defScope s_Office_init) (by decide +kernel)) (fun _ _ _ _ _ => pg_name (i := 4) sc_Office_init.nd rfl (Or.inl rfl)) (fun _ _ _ _ _ => pts_nil) (fun _ _ _ _ _ => (pe_lst pa_nil))) rfl))))))), ?_⟩
    refine ⟨_, rfl, _, _, rfl, rfl, _, rfl, ?_⟩
    by_cases c1 : t < 1
    · rw [decide_eq_true c1]
      refine iteT (iteT ?_)
      exact js_s (b := 0) (Nat.le_refl _) (by decide +kernel) (by omega) fun _ ha => js_f rfl ht ha (by omega) fun _ ha => js_s ha (by decide +kernel) (by omega) fun _ _ => ⟨one_le _, k1 (by omega)⟩
    · rw [decide_eq_false c1]
      refine iteF ?_
      refine ⟨_, rfl, _, _, rfl, rfl, _, rfl, ?_⟩
      by_cases c2 : (400 : Int) < t
      · rw [decide_eq_true c2]
        refine iteT ?_
        exact js_s (b := 0) (Nat.le_refl _) (by decide +kernel) (by omega) fun _ ha => js_f rfl ht ha (by omega) fun _ ha => js_s ha (by decide +kernel) (by omega) fun _ _ => ⟨one_le _, k1 (by omega)⟩
      · rw [decide_eq_false c2]
        refine iteF ?_
        refine ⟨_, rfl, _, _, rfl, rfl, _, rfl, ?_⟩
        by_cases c3 : d < 1
        · rw [decide_eq_true c3]
          refine iteT (iteT ?_)
          exact js_s (b := 0) (Nat.le_refl _) (by decide +kernel) (by omega) fun _ ha => js_f rfl hd ha (by omega) fun _ ha => js_s ha (by decide +kernel) (by omega) fun _ _ => ⟨one_le _, k2 (by omega) (by omega)⟩
        · rw [decide_eq_false c3]
          refine iteF ?_
          refine ⟨_, rfl, _, _, rfl, rfl, _, rfl, ?_⟩
          by_cases c4 : (6 : Int) < d
          · rw [decide_eq_true c4]
            refine iteT ?_
            exact js_s (b := 0) (Nat.le_refl _) (by decide +kernel) (by omega) fun _ ha => js_f rfl hd ha (by omega) fun _ ha => js_s ha (by decide +kernel) (by omega) fun _ _ => ⟨one_le _, k2 (by omega) (by omega)⟩
          · rw [decide_eq_false c4]
            refine iteF ?_
            -- self._states
            refine ⟨_, rfl, _, _, rfl, rfl, 1, t + 1, rfl, ⟨by omega, by omega, by omega, by omega⟩, fun D nD => ?_⟩
            have et : (t + 1 - 1).toNat = t.toNat := by congr 1; omega
            rw [et]
            refine ⟨fun i m H' => m = t.toNat - i ∧ i ≤ t.toNat ∧ Same H H' ∧ H' D = some (.dK (stK i fun _ => "free")), ⟨t.toNat, rfl, Nat.zero_le _, same_upd nD, upd_same⟩, ?_⟩
            rintro i m H1 ⟨rfl, hi, s1, h1⟩
            by_cases hlt : i < t.toNat
            · refine .inr ⟨hlt, fun H' => Same H H' ∧ H' D = some (.dK (stK (i + 1) fun _ => "free")), fun H' q => ⟨t.toNat - (i + 1), by omega, rfl, hlt, q⟩, fun x H2 y => ?_⟩
              obtain ⟨rfl, rfl⟩ := y
              refine ⟨rfl, ?_⟩
              dsimp only [tYes]
              rw [if_pos rfl]
              refine ⟨_, rfl, _, Sum.inl (1 + (i : Int)), rfl, h1, small1000 (by rw [stK_length]; omega), fun c u e => ?_, ?_⟩
              · rw [upd_ne (fun z => by rw [z] at e; rw [nD] at e; cases e)]
                exact s1 c u e
              · rw [upd_same, show (1 : Int) + (i : Int) = (i : Int) + 1 by omega]
                exact congrArg (fun l => some (HO.dK l)) (stK_grow i fun _ => "free")
            · have ei : i = t.toNat := by omega
              subst ei
              refine .inl ⟨Nat.le_refl _, ?_⟩
              refine ⟨_, rfl, p, a.C, dx, _, rfl, s1 _ _ hp, T.cl, T.na_states, by show 0 < 1000; decide, ?_⟩
              -- self._holders = {}
              have npD : p ≠ D := ne_of_none hp nD
              intro dH nH
              have npH : p ≠ dH := fun z => by rw [z, upd_same] at nH; cases nH
              have nDH : D ≠ dH := fun z => by rw [← z, upd_ne npD.symm, h1] at nH; cases nH
              have nH1 : H1 dH = none := by rw [upd_ne npH.symm] at nH; exact nH
              refine ⟨_, rfl, p, a.C, dx, _, rfl, by rw [upd_ne npH]; exact upd_same, T.cl, T.na_holders, by show 1 < 1000; decide, ?_⟩
              -- self._stages
              refine ⟨_, rfl, d, rfl, by omega, by omega, fun aS nS => ?_⟩
              have npS : p ≠ aS := fun z => by rw [z, upd_same] at nS; cases nS
              have nHS : dH ≠ aS := fun z => by rw [← z, upd_ne npH.symm, upd_same] at nS; cases nS
              have nDS : D ≠ aS := fun z => by rw [← z, upd_ne npD.symm, upd_ne nDH, upd_ne npD.symm, h1] at nS; cases nS
              generalize eH3 : upd (upd (upd H1 p _) dH _) p _ = H3 at nS
              refine ⟨fun i m H' => m = d.toNat - i ∧ i ≤ d.toNat ∧ Same H3 H' ∧ H' aS = some (.lst ((List.replicate i ("going" : Str)).map V.str)), ⟨d.toNat, rfl, Nat.zero_le _, same_upd nS, upd_same⟩, ?_⟩
              rintro i m H4 ⟨rfl, hi4, s4, h4⟩
              by_cases hlt4 : i < d.toNat
              · refine .inr ⟨hlt4, fun H' => Same H3 H' ∧ H' aS = some (.lst ((List.replicate (i + 1) ("going" : Str)).map V.str)), fun H' q => ⟨d.toNat - (i + 1), by omega, rfl, hlt4, q⟩, fun x H5 y => ?_⟩
                obtain ⟨rfl, rfl⟩ := y
                refine ⟨rfl, ?_⟩
                dsimp only [tYes]
                rw [if_pos rfl]
                refine ⟨_, h4, small1000 (by rw [List.length_map, List.length_replicate]; omega), fun c u e => ?_, ?_⟩
                · rw [upd_ne (fun z => by rw [z, nS] at e; cases e)]
                  exact s4 c u e
                · rw [upd_same, repl_succ, List.map_append]
                  rfl
              · have ei : i = d.toNat := by omega
                subst ei
                refine .inl ⟨Nat.le_refl _, ?_⟩
                have e3p : H3 p = some (.ins a.C dx (putF "_holders" (.ref dH) (putF "_states" (.ref D) []))) := by rw [← eH3]; exact upd_same
                refine ⟨_, rfl, p, a.C, dx, _, rfl, s4 _ _ e3p, T.cl, T.na_stages, by show 2 < 1000; decide, ?_⟩
                -- self._lent
                have nap : aS ≠ p := Ne.symm npS
                generalize eH6 : upd H4 p _ = H6
                have e6p : H6 p = some (.ins a.C dx (putF "_stages" (.ref aS) (putF "_holders" (.ref dH) (putF "_states" (.ref D) [])))) := by rw [← eH6]; exact upd_same
                have e6S : H6 aS = some (.lst ((List.replicate d.toNat ("going" : Str)).map V.str)) := by rw [← eH6, upd_ne nap]; exact h4
                have e6D : H6 D = some (.dK (stK t.toNat fun _ => "free")) := by rw [← eH6, upd_ne npD.symm]; exact s4 _ _ (by rw [← eH3, upd_ne npD.symm, upd_ne nDH, upd_ne npD.symm]; exact h1)
                have e6H : H6 dH = some (.dK []) := by rw [← eH6, upd_ne npH.symm]; exact s4 _ _ (by rw [← eH3, upd_ne npH.symm]; exact upd_same)
                have nH0 : H dH = none := s1.free nH1
                have nS0 : H aS = none := s1.free (by rw [← eH3, upd_ne nap, upd_ne nHS.symm, upd_ne nap] at nS; exact nS)
                have k6 : Keep [p] H H6 := fun c u e hc => by
                  have cp : c ≠ p := fun z => hc (by rw [z]; exact List.mem_singleton.mpr rfl)
                  rw [← eH6, upd_ne cp]
                  refine s4 _ _ ?_
                  rw [← eH3, upd_ne cp, upd_ne (fun z => by rw [z, nH0] at e; cases e), upd_ne cp]
                  exact s1 _ _ e
                refine ⟨_, rfl, d, rfl, by omega, by omega, fun aL nL => ?_⟩
                refine ⟨fun i m H' => m = d.toNat - i ∧ i ≤ d.toNat ∧ Same H6 H' ∧ ∃ ls : List Addr, ls.length = i ∧ ls.Nodup ∧ aL ∉ ls ∧ (∀ l ∈ ls, H6 l = none ∧ H' l = some (.lst [])) ∧ H' aL = some (.lst (ls.map V.ref)),
                  ⟨d.toNat, rfl, Nat.zero_le _, same_upd nL, [], rfl, List.nodup_nil, by simp, (fun l hl => by cases hl), upd_same⟩, ?_⟩
                rintro i m H7 ⟨rfl, hi7, s7, ls, l1, l2, l3, l4, l5⟩
                by_cases hlt7 : i < d.toNat
                · refine .inr ⟨hlt7, fun H' => Same H6 H' ∧ ∃ ls : List Addr, ls.length = i + 1 ∧ ls.Nodup ∧ aL ∉ ls ∧ (∀ l ∈ ls, H6 l = none ∧ H' l = some (.lst [])) ∧ H' aL = some (.lst (ls.map V.ref)), fun H' q => ⟨d.toNat - (i + 1), by omega, rfl, hlt7, q⟩, fun x H8 y => ?_⟩
                  obtain ⟨rfl, rfl⟩ := y
                  refine ⟨rfl, ?_⟩
                  dsimp only [tYes]
                  rw [if_pos rfl]
                  refine ⟨Nat.zero_le _, fun l nl => ?_⟩
                  have laL : l ≠ aL := fun z => by rw [z, l5] at nl; cases nl
                  have lls : l ∉ ls := fun z => by rw [(l4 l z).2] at nl; cases nl
                  have nl6 : H6 l = none := s7.free nl
                  refine ⟨_, by rw [upd_ne laL.symm]; exact l5, small1000 (by rw [List.length_map]; omega), fun c u e => ?_, ls ++ [l], by rw [List.length_append, l1]; rfl, ?_, ?_, fun l' hl' => ?_, ?_⟩
                  · rw [upd_ne (fun z => by rw [z, nL] at e; cases e), upd_ne (fun z => by rw [z, nl6] at e; cases e)]
                    exact s7 c u e
                  · exact List.nodup_append.mpr ⟨l2, by simp, fun x hx y hy z => lls (by rw [← List.mem_singleton.mp hy, ← z]; exact hx)⟩
                  · intro z
                    rcases List.mem_append.mp z with z | z
                    · exact l3 z
                    · exact laL (List.mem_singleton.mp z).symm
                  · rcases List.mem_append.mp hl' with z | z
                    · refine ⟨(l4 l' z).1, ?_⟩
                      rw [upd_ne (fun q => l3 (by rw [← q]; exact z)), upd_ne (fun q => lls (by rw [← q]; exact z))]
                      exact (l4 l' z).2
                    · have z := List.mem_singleton.mp z
                      subst z
                      exact ⟨nl6, by rw [upd_ne laL]; exact upd_same⟩
                  · rw [upd_same, List.map_append]
                    rfl
                · have ei : i = d.toNat := by omega
                  refine .inl ⟨by show d.toNat ≤ i; omega, ?_⟩
                  have s7p := s7 _ _ e6p
                  refine ⟨_, rfl, p, a.C, dx, _, rfl, s7p, T.cl, T.na_lent, by show 3 < 1000; decide, ?_⟩
                  have nLp : aL ≠ p := fun z => by rw [z, e6p] at nL; cases nL
                  have nLD : aL ≠ D := fun z => by rw [z, e6D] at nL; cases nL
                  have nLH : aL ≠ dH := fun z => by rw [z, e6H] at nL; cases nL
                  have nLS : aL ≠ aS := fun z => by rw [z, e6S] at nL; cases nL
                  have no : ∀ c u, H6 c = some u → c ∉ ls := fun c u e z => by rw [(l4 c z).1] at e; cases e
                  have f6 : ∀ c, H6 c = none → c ≠ p → H c = none := fun c hc cp => k6.free hc (fun z => cp (List.mem_singleton.mp z))
                  refine k3 ⟨by omega, by omega⟩ ⟨by omega, by omega⟩ ⟨p, dx, D, dH, aS, aL, ls⟩ _ rfl rfl (fun c hc => ?_) (fun c u e hc => ?_) ⟨upd_same, ?_, ⟨[], ?_, List.nodup_nil, fun n => rfl, fun x => rfl⟩, ?_, ?_, ?_, fun i' l ns e1 e2 => ?_, ?_⟩
                  · simp only [Fp.foot, List.mem_cons] at hc
                    rcases hc with rfl | rfl | rfl | rfl | rfl | hc
                    · exact .inl rfl
                    · exact .inr nD
                    · exact .inr nH0
                    · exact .inr nS0
                    · exact .inr (f6 _ nL nLp)
                    · exact .inr (f6 _ (l4 c hc).1 fun z => no p _ e6p (by rw [← z]; exact hc))
                  · rw [upd_ne (fun z => hc (by rw [z]; exact List.mem_singleton.mpr rfl))]
                    exact s7 _ _ (k6 c u e hc)
                  · show upd H7 p _ D = _
                    rw [upd_ne npD.symm]
                    exact s7 _ _ e6D
                  · show upd H7 p _ dH = _
                    rw [upd_ne npH.symm]
                    exact s7 _ _ e6H
                  · show upd H7 p _ aS = _
                    rw [upd_ne nap]
                    exact s7 _ _ e6S
                  · show upd H7 p _ aL = _
                    rw [upd_ne nLp]
                    exact l5
                  · show ls.length = (List.replicate d.toNat ([] : List Int)).length
                    rw [List.length_replicate]
                    omega
                  · have e1 : ls[i']? = some l := e1
                    have e2 : (List.replicate d.toNat ([] : List Int))[i']? = some ns := e2
                    have hm := List.mem_of_getElem? e1
                    have : ns = [] := (List.mem_replicate.mp (List.mem_of_getElem? e2)).2
                    subst this
                    rw [upd_ne (fun z => no p _ e6p (by rw [← z]; exact hm))]
                    exact (l4 l hm).2
                  · show (p :: D :: dH :: aS :: aL :: ls).Nodup
                    simp only [List.nodup_cons, List.mem_cons, not_or]
                    exact ⟨⟨npD, npH, npS, nLp.symm, no _ _ e6p⟩, ⟨nDH, nDS, nLD.symm, no _ _ e6D⟩, ⟨nHS, nLH.symm, no _ _ e6H⟩, ⟨nLS.symm, no _ _ e6S⟩, l3, l2⟩
end
end Nu
namespace Nu
open PySem PySem.Spec PyProof.Rows L2
/-- the draws' state s, of the script sc -/
structure Drw (K : PySem.W.Frag) (H : Hp) (s sc : Addr) (ns : List Int) : Prop where
  sq : SqL K (fun _ => none) sc (ns.map V.int) ∨ (Rd H sc (.lst (ns.map V.int)) ∧ sc ≠ s)
  at_ : ∃ i m r : Int, H s = some (.lst [.ref sc, .int i, .int m, .int r]) ∧ 0 ≤ i ∧ 0 ≤ m ∧ 0 ≤ r
theorem sq_written {K : PySem.W.Frag} {H : Hp} {c : Addr} {xs : List V} (h : SqL K (fun _ => none) c xs) : SqL K H c xs := by
  rcases h with (h | ⟨o, h⟩) | h
  · cases h
  · cases h
  · exact .inr h
theorem Drw.seq {K : PySem.W.Frag} {H : Hp} {s sc : Addr} {ns : List Int} (d : Drw K H s sc ns) : SqL K H sc (ns.map V.int) := d.sq.elim sq_written fun h => .inl h.1
theorem Keep.rd {F : List Addr} {H H' : Hp} {c : Addr} {u : HO} (k : Keep F H H') (h : Rd H c u) (hc : c ∉ F) : Rd H' c u := by
  rcases h with h | ⟨o, h⟩
  · exact .inl (k _ _ h hc)
  · exact .inr ⟨o, k _ _ h hc⟩
/-- the state's own list changed -/
theorem Drw.upd {K : PySem.W.Frag} {H : Hp} {s sc : Addr} {ns : List Int} (d : Drw K H s sc ns) {i m r : Int} (hi : 0 ≤ i) (hm : 0 ≤ m) (hr : 0 ≤ r) : Drw K (L2.upd H s (.lst [.ref sc, .int i, .int m, .int r])) s sc ns :=
  ⟨d.sq.elim .inl fun h => .inr ⟨(keep_upd (F := [s]) (.inl (List.mem_singleton.mpr rfl))).rd h.1 (fun z => h.2 (List.mem_singleton.mp z)), h.2⟩, i, m, r, upd_same, hi, hm, hr⟩
theorem Drw.stay {K : PySem.W.Frag} {H H' : Hp} {s sc : Addr} {ns : List Int} {F : List Addr} (d : Drw K H s sc ns) (k : Keep F H H') (h1 : s ∉ F) (h2 : H sc ≠ none → sc ∉ F) : Drw K H' s sc ns := by
  obtain ⟨i, m, r, e, h⟩ := d.at_
  refine ⟨d.sq.elim .inl fun q => .inr ⟨k.rd q.1 (h2 ?_), q.2⟩, i, m, r, k _ _ e h1, h⟩
  rcases q.1 with z | ⟨o, z⟩ <;> rw [z] <;> simp
section
variable {P : Program} {w : World} {K : PySem.W.Frag} {mg : Str → Option Value} {base : Heap} {a : Ad} {fd : Fd}
def spStart (K : PySem.W.Frag) : Sp := fun vs H Q _ => ∃ (sc : Addr) (ns : List Int), vs = [.ref sc] ∧ SqL K H sc (ns.map V.int) ∧ ∀ s H', H s = none → Same H H' → Drw K H' s sc ns → Q (.ref s) H'
theorem ok_l_start (T : Txt K mg a fd) : FnOk P w K mg base CX0 1 a.l_start fd.l_start ["_law_script"] (spStart K) := by
  refine T.F_l_start.ok sc_l_start (fun vs H Q E h => ?_) (fun cdv A outer s H vs Q E hr h => ?_)
  · obtain ⟨sc, ns, rfl, _⟩ := h
    rfl
  · obtain ⟨sc, ns, rfl, hS, k⟩ := h
    refine ⟨_, (pss_cons (ps_set (i := 1) sc_l_start.nd rfl (Or.inl rfl) pe_int)
    (pss_cons (ps_for PassesOwn.never rfl (pi_list (pv 0)) (pg_name (i := 2) sc_l_start.nd rfl (Or.inl rfl))
      (pss_one (ps_set (i := 1) sc_l_start.nd rfl (Or.inl rfl) (pe_op op_mod (pe_op op_add (pe_op op_add (pe_op op_mul (pv 1) pe_int) (pv 2)) pe_int) pe_int))))
    (pss_one (ps_ret (pe_lst (pa_cons (pv 0) (pa_cons pe_int (pa_cons (pv 1) (pa_cons pe_int pa_nil))))))))), ?_⟩
    refine ⟨_, rfl, sc, rfl, ⟨_, hS⟩, for_list (K := K) (a := sc) (xs := ns.map V.int) (fun i σ H' => ∃ (m : Int) (v : Option V), σ = [some (.ref sc), some (.int m), v] ∧ H' = H ∧ 0 ≤ m) ⟨1, none, rfl, rfl, by decide⟩ (fun i σ H' _ ⟨_, _, _, e, _⟩ => by rw [e]; exact hS) ?_ ?_⟩
    · rintro i x σ H' hi ⟨m, v, rfl, rfl, hm⟩
      obtain ⟨n, hn, rfl⟩ := map_int_at hi
      refine ⟨_, rfl, _, _, rfl, rfl, .inr (by decide), _, rfl, _, _, rfl, rfl, _, _, rfl, rfl, _, _, rfl, rfl, (by show (0 : Int) < 2147483647; decide), ?_⟩
      exact ⟨_, _, rfl, rfl, Int.emod_nonneg _ (by decide)⟩
    · rintro σ H' ⟨m, v, rfl, rfl, hm⟩
      refine ⟨_, rfl, _, rfl, (by show 4 ≤ sizeLine; decide), fun s ns' => ?_⟩
      refine k s _ ns' (same_upd ns') ⟨?_, 0, m, 0, upd_same, by decide, hm, by decide⟩
      rcases hS with hS | hS
      · refine .inr ⟨(Keep.same (F := []) (same_upd ns')).rd hS (by simp), fun z => ?_⟩
        rcases hS with q | ⟨o, q⟩ <;> rw [z, ns'] at q <;> cases q
      · exact .inl (.inr hS)
def spDrawn (K : PySem.W.Frag) : Sp := fun vs H Q _ => ∃ (s sc : Addr) (ns : List Int) (n : Int), vs = [.ref s, .int n] ∧ Drw K H s sc ns ∧ 1 ≤ n ∧ n.natAbs.log2 < 9000 ∧ ∀ v H', 0 ≤ v → v < n → Keep [s] H H' → Drw K H' s sc ns → Q (.int v) H'
theorem at0 {α : Type} {x0 x1 x2 x3 : α} : atI [x0, x1, x2, x3] 0 = some x0 := rfl
theorem at1 {α : Type} {x0 x1 x2 x3 : α} : atI [x0, x1, x2, x3] 1 = some x1 := rfl
theorem at2 {α : Type} {x0 x1 x2 x3 : α} : atI [x0, x1, x2, x3] 2 = some x2 := rfl
theorem at3 {α : Type} {x0 x1 x2 x3 : α} : atI [x0, x1, x2, x3] 3 = some x3 := rfl
theorem ok_l_drawn (T : Txt K mg a fd) : FnOk P w K mg base CX0 1 a.l_drawn fd.l_drawn ["_law_state_here", "_law_many"] (spDrawn K) := by
  refine T.F_l_drawn.ok sc_l_drawn (fun vs H Q E h => ?_) (fun cdv A outer s H vs Q E hr h => ?_)
  · obtain ⟨s, sc, ns, n, rfl, _⟩ := h
    rfl
  · obtain ⟨s, sc, ns, n, rfl, D, hn, hlog, k⟩ := h
    obtain ⟨i, m, r, e, i0, m0, r0⟩ := D.at_
    have n0 : (0 : Int) < n := by omega
    have kp : ∀ (H : Hp) (u : HO), Keep [s] H (upd H s u) := fun H u => keep_upd (.inl (List.mem_singleton.mpr rfl))
    refine ⟨_, (pss_cons (ps_if (pt_cmpR op_gt (pe_ix ix_list (pv 0) pe_int (fun _ _ => rfl)) pe_int (nomark _)) (pss_cons (ps_set (i := 2) sc_l_drawn.nd rfl (Or.inl rfl) (pe_op op_mod (pe_ix ix_list (pv 0) pe_int (fun _ _ => rfl)) (pv 1)))
    (pss_cons (ps_asg (pe_op op_fdivW (pe_ix ix_list (pv 0) pe_int (fun _ _ => rfl)) (pv 1)) (pg_sub (pv 0) pe_int set_list))
    (pss_one (ps_ret (pv 2))))) pss_nil)
    (pss_cons (ps_asg (pe_op op_add (pe_ix ix_list (pv 0) pe_int (fun _ _ => rfl)) pe_int) (pg_sub (pv 0) pe_int set_list))
    (pss_cons (ps_if (pt_cmpR op_le (pe_ix ix_list (pv 0) pe_int (fun _ _ => rfl)) (pe_callB call_len_seq (by rfl) T.n_len PySem.boot_len (pa_cons (pe_ix ix_list (pv 0) pe_int (fun _ _ => rfl)) pa_nil)) (nomark _)) (pss_cons (ps_set (i := 3) sc_l_drawn.nd rfl (Or.inl rfl) (pe_ix ix_list (pe_ix ix_list (pv 0) pe_int (fun _ _ => rfl)) (pe_op op_sub (pe_ix ix_list (pv 0) pe_int (fun _ _ => rfl)) pe_int) (fun _ _ => rfl)))
    (pss_cons (ps_asg (pe_ifExp (pt_cmpR op_ge (pv 3) (pe_op op_pow pe_int pe_int) (nomark _)) (pe_op op_fdivW (pv 3) (pv 1)) pe_int) (pg_sub (pv 0) pe_int set_list))
    (pss_one (ps_ret (pe_op op_mod (pv 3) (pv 1)))))) pss_nil)
    (pss_cons (ps_asg (pe_op op_mod (pe_op op_add (pe_op op_mul (pe_ix ix_list (pv 0) pe_int (fun _ _ => rfl)) pe_int) pe_int) pe_int) (pg_sub (pv 0) pe_int set_list))
    (pss_one (ps_ret (pe_op op_mod (pe_op op_fdiv (pe_ix ix_list (pv 0) pe_int (fun _ _ => rfl)) pe_int) (pv 1)))))))), ?_⟩
    refine ⟨_, rfl, s, _, 3, _, rfl, rfl, SqL.of e, at3, _, _, rfl, rfl, _, rfl, ?_⟩
    by_cases c : 0 < r
    · rw [decide_eq_true c]
      refine iteT ?_
      refine ⟨_, rfl, s, _, 3, _, rfl, rfl, SqL.of e, at3, _, rfl, _, _, rfl, rfl, n0, ?_⟩
      refine ⟨_, rfl, s, _, 3, _, rfl, rfl, SqL.of e, at3, _, rfl, _, _, rfl, rfl, ⟨n0, hlog⟩, ?_⟩
      refine ⟨_, rfl, s, _, 3, 3, rfl, rfl, e, rfl, ?_⟩
      refine ⟨_, rfl, k _ _ (Int.emod_nonneg _ (by omega)) (Int.emod_lt_of_pos _ n0) (kp _ _) (D.upd i0 m0 (Int.ediv_nonneg r0 (by omega)))⟩
    · rw [decide_eq_false c]
      refine iteF ?_
      refine ⟨_, rfl, s, _, 1, _, rfl, rfl, SqL.of e, at1, _, _, rfl, rfl, ?_⟩
      refine ⟨_, rfl, s, _, 1, 1, rfl, rfl, e, rfl, ?_⟩
      have e1 : (upd H s (.lst ([V.ref sc, V.int i, V.int m, V.int r].set 1 (V.int (i + 1))))) s = some (.lst [.ref sc, .int (i + 1), .int m, .int r]) := upd_same
      have D1 : Drw K (upd H s (.lst ([V.ref sc, V.int i, V.int m, V.int r].set 1 (V.int (i + 1))))) s sc ns := D.upd (i := i + 1) (by omega) m0 r0
      have sq1 := D1.seq
      refine ⟨_, rfl, s, _, 1, _, rfl, rfl, SqL.of e1, at1, _, rfl, s, _, 0, _, rfl, rfl, SqL.of e1, at0, sc, _, rfl, .inl sq1, _, _, rfl, rfl, _, rfl, ?_⟩
      by_cases c2 : i + 1 ≤ ((ns.map V.int).length : Int)
      · rw [decide_eq_true c2]
        refine iteT ?_
        rw [List.length_map] at c2
        obtain ⟨j, rfl⟩ := Int.eq_ofNat_of_zero_le i0
        have hj : j < ns.length := by omega
        have hc : (ns.map V.int)[j]? = some (V.int ns[j]) := by rw [List.getElem?_map, List.getElem?_eq_getElem hj]; rfl
        refine ⟨_, rfl, s, _, 0, _, rfl, rfl, SqL.of e1, at0, _, rfl, s, _, 1, _, rfl, rfl, SqL.of e1, at1, _, _, rfl, rfl, sc, _, _, _, rfl, rfl, sq1, (by rw [show (j : Int) + 1 - 1 = (j : Int) by omega]; exact atI_nat hc), ?_⟩
        refine ⟨_, rfl, _, _, rfl, rfl, ⟨by decide, by decide, by decide⟩, _, _, rfl, rfl, _, rfl, ?_⟩
        by_cases c3 : (10 : Int) ^ (18 : Int).toNat ≤ ns[j]
        · rw [decide_eq_true c3]
          refine iteT ?_
          refine ⟨_, rfl, _, rfl, _, _, rfl, rfl, ⟨n0, hlog⟩, ?_⟩
          refine ⟨_, rfl, s, _, 3, 3, rfl, rfl, e1, rfl, ?_⟩
          refine ⟨_, rfl, _, rfl, _, _, rfl, rfl, n0, ?_⟩
          exact k _ _ (Int.emod_nonneg _ (by omega)) (Int.emod_lt_of_pos _ n0) ((kp _ _).trans (kp _ _)) (D1.upd (by omega) m0 (Int.ediv_nonneg (Int.le_trans (by decide) c3) (by omega)))
        · rw [decide_eq_false c3]
          refine iteF ?_
          refine ⟨_, rfl, s, _, 3, 3, rfl, rfl, e1, rfl, ?_⟩
          refine ⟨_, rfl, _, rfl, _, _, rfl, rfl, n0, ?_⟩
          exact k _ _ (Int.emod_nonneg _ (by omega)) (Int.emod_lt_of_pos _ n0) ((kp _ _).trans (kp _ _)) (D1.upd (by omega) m0 (Int.le_refl _))
      · rw [decide_eq_false c2]
        refine iteF ?_
        refine ⟨_, rfl, s, _, 2, _, rfl, rfl, SqL.of e1, at2, _, _, rfl, rfl, .inr (by decide), _, _, rfl, rfl, _, _, rfl, rfl, (by show (0 : Int) < 2147483647; decide), ?_⟩
        refine ⟨_, rfl, s, _, 2, 2, rfl, rfl, e1, rfl, ?_⟩
        refine ⟨_, rfl, s, _, 2, _, rfl, rfl, SqL.of upd_same, at2, _, _, rfl, rfl, ⟨by decide, by decide⟩, _, rfl, _, _, rfl, rfl, n0, ?_⟩
        exact k _ _ (Int.emod_nonneg _ (by omega)) (Int.emod_lt_of_pos _ n0) ((kp _ _).trans (kp _ _)) (D1.upd (by omega) (Int.emod_nonneg _ (by decide)) r0)
end
end Nu
namespace Nu
open PySem PySem.Spec PyProof.Rows L2
section
variable {X : Cx} {K : PySem.W.Frag}
theorem ixL_K (h : X.K = K) : IxR X (rIxL K) := h ▸ ix_list
theorem ixT_K (h : X.K = K) : IxR X (rIxT K) := h ▸ ix_tup
theorem ixS_K (h : X.K = K) : IxR X (rIx K) := h ▸ ix_seq
theorem inSeq_K (h : X.K = K) : OpR X (compareOp .In) (rIn K false) := h ▸ op_in_seq
theorem notInSeq_K (h : X.K = K) : OpR X (compareOp .NotIn) (rIn K true) := h ▸ op_notIn_seq
theorem pe_fldK {e : Expr} {f : Str} {pos : Pos} {ta : TE} (h : X.K = K) (he : PE X e ta) (hb : attributeBase e f X.env (eval e X.env) = eval e X.env) : PE X (.Attribute e f pos) (tFld K ta f) := h ▸ pe_fld he hb
end
/-- a list (b true) or a tuple at p -/
def SqB (H : Hp) (p : Addr) (xs : List V) (b : Bool) : Prop := H p = some (if b = true then .lst xs else .tup xs)
/-- the same data, at most n deep -/
def SmD (H : Hp) : Nat → V → V → Prop
  | 0, _, _ => False
  | n + 1, x, y => (x = y ∧ flatV y = true) ∨ ∃ p q xs ys b, x = .ref p ∧ y = .ref q ∧ SqB H p xs b ∧ SqB H q ys b ∧ xs.length = ys.length ∧ xs.length ≤ 1000 ∧ ∀ (i : Nat) (u v : V), xs[i]? = some u → ys[i]? = some v → SmD H n u v
theorem SmD.same {H H' : Hp} (s : Same H H') : ∀ (n : Nat) (x y : V), SmD H n x y → SmD H' n x y
  | 0, _, _, h => h.elim
  | n + 1, x, y, h => by
    rcases h with h | ⟨p, q, xs, ys, b, e1, e2, h1, h2, h3, h4, h5⟩
    · exact .inl h
    · exact .inr ⟨p, q, xs, ys, b, e1, e2, s _ _ h1, s _ _ h2, h3, h4, fun i u v a c => SmD.same s n u v (h5 i u v a c)⟩
theorem SqB.seq {K : PySem.W.Frag} {H : Hp} {p : Addr} {xs : List V} {b : Bool} (h : SqB H p xs b) : SqL K H p xs ∨ SqT K H p xs := by
  cases b with
  | true => exact .inl (SqL.of h)
  | false => exact .inr (SqT.of h)
theorem rix_seq {K : PySem.W.Frag} {H : Hp} {p : Addr} {xs : List V} {b : Bool} {j : Nat} {v : V} {Q : VK} (h : SqB H p xs b) (e : xs[j]? = some v) (q : Q v H) : rIx K (.ref p) (.int (j : Int)) H Q := by
  cases b with
  | true => exact .inl ⟨p, xs, _, v, rfl, rfl, SqL.of h, atI_nat e, q⟩
  | false => exact .inr (.inl ⟨p, xs, _, v, rfl, rfl, SqT.of h, atI_nat e, q⟩)
theorem notTL {K : PySem.W.Frag} {n : String} (h1 : kitB n "tuple" = some false) (h2 : kitB n "list" = some false) : PySem.W.kitAny K (.type n) [.type "tuple", .type "list"] = some false :=
  kitAny_cons (kit_ty h1) (fun _ => kitAny_cons (kit_ty h2) (fun _ => kitAny_nil) (fun z => by cases z)) (fun z => by cases z)
theorem isTL {K : PySem.W.Frag} (b : Bool) : PySem.W.kitAny K (.type (if b = true then "list" else "tuple")) [.type "tuple", .type "list"] = some true := by
  cases b with
  | true => exact kitAny_cons (kit_ty (r := false) (by decide +kernel)) (fun _ => kitAny_cons (kit_ty (r := true) (by decide +kernel)) (fun z => by cases z) (fun _ => rfl)) (fun z => by cases z)
  | false => exact kitAny_cons (kit_ty (r := true) (by decide +kernel)) (fun z => by cases z) (fun _ => rfl)
theorem isL {K : PySem.W.Frag} (b : Bool) : PySem.W.kitOne K (.type (if b = true then "list" else "tuple")) (.type "list") = some b := by
  cases b with
  | true => exact kit_ty (by decide +kernel)
  | false => exact kit_ty (by decide +kernel)
theorem tyB {K : PySem.W.Frag} {H : Hp} {p : Addr} {xs : List V} {b : Bool} (h : SqB H p xs b) : TyX K H (.ref p) (.type (if b = true then "list" else "tuple")) := by
  cases b with
  | true => exact .base (.lst h)
  | false => exact .base (.tup h)
theorem SqB.upd_new {H : Hp} {p t : Addr} {xs : List V} {b : Bool} {o : HO} (h : SqB H p xs b) (ht : H t = none) : SqB (upd H t o) p xs b := same_upd ht _ _ h
theorem tl_paired : Paired ClsV [.ty "tuple", .ty "list"] [.type "tuple", .type "list"] := .cons (.ty "tuple") (.cons (.ty "list") .nil)
section
variable {P : Program} {w : World} {K : PySem.W.Frag} {mg : Str → Option Value} {base : Heap} {a : Ad} {fd : Fd}
def spSame (n : Nat) : Sp := fun vs H Q _ => ∃ (x y : V), vs = [x, y] ∧ SmD H n x y ∧ ∀ H', Same H H' → Q (.bl true) H'
theorem ok_l_same (T : Txt K mg a fd) : ∀ n : Nat, FnOk P w K mg base CX0 (n + 1) a.l_same fd.l_same ["_law_found_here", "_law_due_here"] (spSame n)
  | 0 => by
    refine T.F_l_same.ok sc_l_same (fun vs H Q E h => ?_) (fun cdv A outer s H vs Q E hr h => ?_)
    · obtain ⟨x, y, rfl, _⟩ := h
      rfl
    · obtain ⟨x, y, rfl, h, _⟩ := h
      exact h.elim
  | n + 1 => by
    have G_l_same := ok_l_same T n
    refine T.F_l_same.ok sc_l_same (fun vs H Q E h => ?_) (fun cdv A outer s H vs Q E hr h => ?_)
    · obtain ⟨x, y, rfl, _⟩ := h
      rfl
    · obtain ⟨x, y, rfl, h, k⟩ := h
      refine ⟨_, (pss_cons (ps_if (pt_val (pe_callB call_isiT (by rfl) T.n_isinstance (by decide +kernel) (pa_cons (pv 1) (pa_cons (pe_tup (pa_cons (pe_bltn (v := .ty "tuple") (by rfl) T.n_tuple (by decide +kernel) rfl) (pa_cons (pe_bltn (v := .ty "list") (by rfl) T.n_list (by decide +kernel) rfl) pa_nil))) pa_nil)))) (pss_cons (ps_if (PW.pt (pw_or (pt_not (pt_val (pe_callB call_isiT (by rfl) T.n_isinstance (by decide +kernel) (pa_cons (pv 0) (pa_cons (pe_tup (pa_cons (pe_bltn (v := .ty "tuple") (by rfl) T.n_tuple (by decide +kernel) rfl) (pa_cons (pe_bltn (v := .ty "list") (by rfl) T.n_list (by decide +kernel) rfl) pa_nil))) pa_nil))))) (pw_or1 (pt_cmpR op_ne (pe_callB call_isi (by rfl) T.n_isinstance (by decide +kernel) (pa_cons (pv 0) (pa_cons (pe_bltn (v := .ty "list") (by rfl) T.n_list (by decide +kernel) rfl) pa_nil))) (pe_callB call_isi (by rfl) T.n_isinstance (by decide +kernel) (pa_cons (pv 1) (pa_cons (pe_bltn (v := .ty "list") (by rfl) T.n_list (by decide +kernel) rfl) pa_nil))) (nomark _))))) (pss_one (ps_ret pe_bl)) pss_nil)
    (pss_cons (ps_if (pt_cmpR op_ne (pe_callB call_len_seq (by rfl) T.n_len PySem.boot_len (pa_cons (pv 0) pa_nil)) (pe_callB call_len_seq (by rfl) T.n_len PySem.boot_len (pa_cons (pv 1) pa_nil)) (nomark _)) (pss_one (ps_ret pe_bl)) pss_nil)
    (pss_one (ps_ret (pe_cmpR (op_eqD hr.units) (pe_lc (own := [("_law_k", 2)]) (g := gName 2) (by rfl) sc_l_same.nd (pi_range1 (by rfl) T.n_range (pa_cons (pe_callB call_len_seq (by rfl) T.n_len PySem.boot_len (pa_cons (pv 1) pa_nil)) pa_nil)) (blkOk_by (own := [("_law_k", 2)]) (N := ["_law_found_here", "_law_due_here", "_law_k"]) (sc := defScope s_l_same) (by decide +kernel)) (fun _ _ _ _ _ => pg_name (i := 2) sc_l_same.nd rfl (Or.inl rfl)) (fun _ _ _ _ _ => (pts_one (pt_not (pt_val (pe_call G_l_same hr (by rfl) T.g_l_same T.F_l_same.kp T.b_l_same .nil pass0 (pa_cons (pe_ix (ixS_K (K := K) rfl) (pv 0) (pv 2) (fun _ _ => rfl)) (pa_cons (pe_ix (ixS_K (K := K) rfl) (pv 1) (pv 2) (fun _ _ => rfl)) pa_nil))))))) (fun _ _ _ _ _ => (pv 2))) (pe_lst pa_nil) (nomark _)))))) pss_nil)
    (pss_cons (ps_if (pt_cmpR op_isN (pv 1) pe_non (nomark _)) (pss_one (ps_ret (pe_cmpR op_isN (pv 0) pe_non (nomark _)))) pss_nil)
    (pss_cons (ps_if (pt_val (pe_callB call_isi (by rfl) T.n_isinstance (by decide +kernel) (pa_cons (pv 1) (pa_cons (pe_bltn (v := .ty "str") (by rfl) T.n_str (by decide +kernel) rfl) pa_nil)))) (pss_one (ps_ret (pe_and (pe_callB call_isi (by rfl) T.n_isinstance (by decide +kernel) (pa_cons (pv 0) (pa_cons (pe_bltn (v := .ty "str") (by rfl) T.n_str (by decide +kernel) rfl) pa_nil))) (pe_one (pe_cmpR op_eq (pv 0) (pv 1) (nomark _)))))) pss_nil)
    (pss_cons (ps_if (PW.pt (pw_or (pt_val (pe_callB call_isi (by rfl) T.n_isinstance (by decide +kernel) (pa_cons (pv 1) (pa_cons (pe_bltn (v := .ty "bool") (by rfl) T.n_bool (by decide +kernel) rfl) pa_nil)))) (pw_or1 (pt_val (pe_callB call_isi (by rfl) T.n_isinstance (by decide +kernel) (pa_cons (pv 0) (pa_cons (pe_bltn (v := .ty "bool") (by rfl) T.n_bool (by decide +kernel) rfl) pa_nil))))))) (pss_one (ps_ret (pe_and (pe_callB call_isi (by rfl) T.n_isinstance (by decide +kernel) (pa_cons (pv 1) (pa_cons (pe_bltn (v := .ty "bool") (by rfl) T.n_bool (by decide +kernel) rfl) pa_nil))) (pe_and (pe_callB call_isi (by rfl) T.n_isinstance (by decide +kernel) (pa_cons (pv 0) (pa_cons (pe_bltn (v := .ty "bool") (by rfl) T.n_bool (by decide +kernel) rfl) pa_nil))) (pe_one (pe_cmpR op_eq (pv 0) (pv 1) (nomark _))))))) pss_nil)
    (pss_one (ps_ret (pe_and (pe_callB call_isi (by rfl) T.n_isinstance (by decide +kernel) (pa_cons (pv 0) (pa_cons (pe_bltn (v := .ty "int") (by rfl) T.n_int (by decide +kernel) rfl) pa_nil))) (pe_one (pe_cmpR op_eq (pv 0) (pv 1) (nomark _)))))))))), ?_⟩
      rcases h with ⟨rfl, hf⟩ | ⟨p, q, xs, ys, b, rfl, rfl, h1, h2, h3, h4, h5⟩
      · -- a number, a text, a truth, nothing
        cases x with
        | non =>
          refine ⟨_, rfl, (by show 2 ≤ sizeLine; decide), fun t ht => ⟨_, t, _, _, _, _, rfl, upd_same, tl_paired, .base .non, notTL (by decide +kernel) (by decide +kernel), _, rfl, iteF ?_⟩⟩
          refine ⟨_, rfl, rfl, _, rfl, iteT ?_⟩
          exact ⟨_, rfl, rfl, k _ (same_upd ht)⟩
        | bl c =>
          refine ⟨_, rfl, (by show 2 ≤ sizeLine; decide), fun t ht => ⟨_, t, _, _, _, _, rfl, upd_same, tl_paired, .base (.bl c), notTL (by decide +kernel) (by decide +kernel), _, rfl, iteF ?_⟩⟩
          refine ⟨_, rfl, rfl, _, rfl, iteF ?_⟩
          refine ⟨_, rfl, _, _, _, _, _, rfl, .ty "str", .base (.bl c), kit_ty (r := false) (by decide +kernel), _, rfl, iteF ?_⟩
          refine ⟨_, rfl, _, _, _, _, _, rfl, .ty "bool", .base (.bl c), kit_ty (r := true) (by decide +kernel), _, rfl, iteT (iteT ?_)⟩
          refine ⟨_, rfl, _, _, _, _, _, rfl, .ty "bool", .base (.bl c), kit_ty (r := true) (by decide +kernel), _, rfl, iteT ?_⟩
          refine ⟨_, rfl, _, _, _, _, _, rfl, .ty "bool", .base (.bl c), kit_ty (r := true) (by decide +kernel), _, rfl, iteT ?_⟩
          refine ⟨_, rfl, _, rfl, rfl, ?_⟩
          rw [decide_eq_true rfl]
          exact k _ (same_upd ht)
        | int c =>
          refine ⟨_, rfl, (by show 2 ≤ sizeLine; decide), fun t ht => ⟨_, t, _, _, _, _, rfl, upd_same, tl_paired, .base (.int c), notTL (by decide +kernel) (by decide +kernel), _, rfl, iteF ?_⟩⟩
          refine ⟨_, rfl, rfl, _, rfl, iteF ?_⟩
          refine ⟨_, rfl, _, _, _, _, _, rfl, .ty "str", .base (.int c), kit_ty (r := false) (by decide +kernel), _, rfl, iteF ?_⟩
          refine ⟨_, rfl, _, _, _, _, _, rfl, .ty "bool", .base (.int c), kit_ty (r := false) (by decide +kernel), _, rfl, iteF ?_⟩
          refine ⟨_, rfl, _, _, _, _, _, rfl, .ty "bool", .base (.int c), kit_ty (r := false) (by decide +kernel), _, rfl, iteF ?_⟩
          refine ⟨_, rfl, _, _, _, _, _, rfl, .ty "int", .base (.int c), kit_ty (r := true) (by decide +kernel), _, rfl, iteT ?_⟩
          refine ⟨_, rfl, _, rfl, rfl, ?_⟩
          rw [decide_eq_true rfl]
          exact k _ (same_upd ht)
        | str c =>
          refine ⟨_, rfl, (by show 2 ≤ sizeLine; decide), fun t ht => ⟨_, t, _, _, _, _, rfl, upd_same, tl_paired, .base (.str c), notTL (by decide +kernel) (by decide +kernel), _, rfl, iteF ?_⟩⟩
          refine ⟨_, rfl, rfl, _, rfl, iteF ?_⟩
          refine ⟨_, rfl, _, _, _, _, _, rfl, .ty "str", .base (.str c), kit_ty (r := true) (by decide +kernel), _, rfl, iteT ?_⟩
          refine ⟨_, rfl, _, _, _, _, _, rfl, .ty "str", .base (.str c), kit_ty (r := true) (by decide +kernel), _, rfl, iteT ?_⟩
          refine ⟨_, rfl, _, rfl, rfl, ?_⟩
          rw [decide_eq_true rfl]
          exact k _ (same_upd ht)
        | byt c => cases hf
        | flt c => cases hf
        | ref c => cases hf
        | ty c => cases hf
      · -- lists, tuples
        refine ⟨_, rfl, (by show 2 ≤ sizeLine; decide), fun t ht => ⟨_, t, _, _, _, _, rfl, upd_same, tl_paired, tyB (h2.upd_new ht), isTL b, _, rfl, iteT ?_⟩⟩
        have p1 := h1.upd_new (o := .tup [V.ty "tuple", V.ty "list"]) ht
        have q1 := h2.upd_new (o := .tup [V.ty "tuple", V.ty "list"]) ht
        refine ⟨_, rfl, (by show 2 ≤ sizeLine; decide), fun t2 ht2 => ⟨_, t2, _, _, _, _, rfl, upd_same, tl_paired, tyB (p1.upd_new ht2), isTL b, _, rfl, iteF ?_⟩⟩
        have p2 := p1.upd_new (o := .tup [V.ty "tuple", V.ty "list"]) ht2
        have q2 := q1.upd_new (o := .tup [V.ty "tuple", V.ty "list"]) ht2
        have s2 : Same H _ := (same_upd (o := .tup [V.ty "tuple", V.ty "list"]) ht).trans (same_upd (o := .tup [V.ty "tuple", V.ty "list"]) ht2)
        refine ⟨_, rfl, _, _, _, _, _, rfl, .ty "list", tyB p2, isL b, _, rfl, _, _, _, _, _, rfl, .ty "list", tyB q2, isL b, rfl, _, rfl, ?_⟩
        rw [decide_eq_true rfl]
        refine iteF ?_
        refine ⟨_, rfl, p, _, rfl, p2.seq, _, rfl, q, _, rfl, q2.seq, rfl, _, rfl, ?_⟩
        rw [decide_eq_true (by rw [h3])]
        refine iteF ?_
        -- return [..] == []
        refine ⟨_, rfl, q, _, rfl, q2.seq, _, rfl, by omega, by omega, fun D nD => ?_⟩
        refine ⟨fun i m H' => m = ys.length - i ∧ i ≤ ys.length ∧ Same _ H' ∧ H' D = some (.lst []), ⟨ys.length, rfl, Nat.zero_le _, same_upd nD, upd_same⟩, ?_⟩
        rintro i m H3 ⟨rfl, hi, s3, hD⟩
        by_cases hlt : i < ys.length
        · refine .inr ⟨by show i < ((ys.length : Nat) : Int).toNat; omega, fun H' => Same _ H' ∧ H' D = some (.lst []), fun H' q => ⟨ys.length - (i + 1), by omega, rfl, hlt, q⟩, fun x H4 y => ?_⟩
          obtain ⟨rfl, rfl⟩ := y
          refine ⟨rfl, ?_⟩
          have ex : xs[i]? = some (xs[i]'(by omega)) := List.getElem?_eq_getElem _
          have ey : ys[i]? = some ys[i] := List.getElem?_eq_getElem hlt
          have e0 : (0 : Int) + (i : Int) = (i : Int) := by omega
          refine ⟨_, rfl, _, rfl, ?_⟩
          rw [e0]
          refine rix_seq (s3 _ _ p2) ex ⟨_, rfl, _, rfl, ?_⟩
          refine rix_seq (s3 _ _ q2) ey ⟨_, _, rfl, SmD.same (s2.trans s3) _ _ _ (h5 i _ _ ex ey), fun H5 s5 => ⟨_, rfl, iteF ?_⟩⟩
          exact ⟨s3.trans s5, s5 _ _ hD⟩
        · refine .inl ⟨by show ((ys.length : Nat) : Int).toNat ≤ i; omega, ?_⟩
          refine ⟨Nat.zero_le _, fun e ne => ⟨.list [], .list [], .lst (SqL.of ?_) .nil, .lst (SqL.of upd_same) .nil, rfl, rfl, ?_⟩⟩
          · rw [upd_ne (fun z => by rw [z, ne] at hD; cases hD)]
            exact hD
          · exact k _ ((s2.trans s3).trans (same_upd ne))
end
end Nu
namespace Nu
open PySem PySem.Spec PyProof.Rows L2
/-- d.update(e) of two dicts -/
def rDUpd : V → List V → Hp → VK → Prop := fun x vs H Q => ∃ (d e : Addr) (ks ls : List (Key × V)), x = .ref d ∧ vs = [.ref e] ∧ d ≠ e ∧ H d = some (.dK ks) ∧ H e = some (.dK ls) ∧ ks.length + ls.length ≤ sizeLine ∧ Q .non (upd H d (.dK (mergeK ks ls)))
theorem mtd_update {X : Cx} : MtR X "dict.update" rDUpd := by
  intro pins s σ H x vs v us Q I rx rv h
  obtain ⟨d, e, ks, ls, ex, ev, hne, hd, he, hz, q⟩ := h
  subst ex
  subst ev
  cases (show v = Value.ref d from rx)
  obtain ⟨u, rfl, ru⟩ := rv.one
  cases (show u = Value.ref e from ru)
  obtain ⟨z1, d1, v1, r1, dd1⟩ := dk_of I.hok hd
  obtain ⟨z2, d2, v2, r2, dd2⟩ := dk_of I.hok he
  refine call_meetsIn PySem.F.slot_dict_update dd1.typeIs PySem.F.entry_dict_update (PySem.F.args_dict_update_2 _ _) (meets_dict_update (mixKind X.prog X.w) d e hne d2)
    ⟨v1, v2, dd1, dd2, (by have a1 := r1.length; have a2 := r2.length; omega), fun h' dd' _ hs => ?_⟩
  have hp : ∃ o, h'.get? d = some o := let ⟨o, _, _, ho, _⟩ := dd'; ⟨o, ho⟩
  have hm : (mergeK ks ls).length ≤ sizeLine := Nat.le_trans (length_mergeK ls ks) hz
  exact ⟨.non, _, d_write (t' := s.toks) I (by rw [hd]; exact True.intro) hs hp (dk_new hm d1 (KV.merge r2 r1) dd'), rfl, q⟩
/-! ### range(a, b) of any size -/
theorem turn_long {P : Program} {w : World} {K : PySem.W.Frag} {tg : Expr} (t : Addr) (lo : Int) (n : Nat) : Turn P w K tg (Itr lo n) [t] t (fun i h => IsLongIter h t (lo + (i : Nat) * 1) ((n : Int) - (i : Nat)) 1) := by
  constructor
  case mem => exact List.mem_singleton.mpr rfl
  case obj =>
    intro i h st b hb
    have eb : b = t := List.mem_singleton.mp hb
    subst eb
    refine ⟨_, st, fun v z => ?_⟩
    have z' : Data.fields _ = Data.cell v := z
    cases z'
  case keep =>
    intro i h h' st k
    exact k t (List.mem_singleton.mpr rfl) _ st
  case item =>
    intro X hP hw hK hc i pins s σ H E I hf st hg
    subst hP hw hK
    obtain ⟨g0, g1, g2, g3, g4, g5⟩ := hf t (List.mem_singleton.mpr rfl)
    refine (Walks.longrange (prog := X.prog) (w := X.w) (I.ok.hd hc) t lo 1 n).item i s _ _ hg st fun v h' tk hv st' kk => ?_
    obtain ⟨tv, rfl⟩ := hv
    have J : Inv X pins σ H { s with heap := h', toks := tk } := I.turned (fun b o hb e => kk b o (fun z => hb (List.mem_singleton.mp z)) e) g0 g1 g3 g4 g5
    refine ⟨_, rfl, go_of (n := "longrange_iterator") (s := { s with heap := h', toks := tk }) st' rfl rfl (by decide) ?_⟩
    refine ⟨.int (lo + i), H, J, ⟨tv, by rw [Int.mul_one]⟩, ⟨rfl, rfl⟩, st', fun b hb => (hf b hb).1⟩
  case done =>
    intro X hP hw hK hc i pins s σ H E I hf st hg
    subst hP hw hK
    obtain ⟨g0, g1, g2, g3, g4, g5⟩ := hf t (List.mem_singleton.mpr rfl)
    have hn : n ≤ i := hg
    refine wpAny_pyNext_long_end (I.ok.hd hc) st (by omega) fun h' eb => ?_
    exact ⟨rfl, I.turned (t' := s.toks) (fun b o hb e => eb b o hb e) g0 g1 g3 g4 g5⟩
  case self =>
    intro A i s Q E st h
    exact wpAny_pyIter_longiter st h
theorem range_any {X : Cx} {tg : Expr} {pins : List (Addr × Obj)} {σ : L2.St} {H : Hp} {s : Shared} {R : It → Hp → Prop} {E : Value → Shared → Prop} {lo hi : Int} {t u v : Tok} {tk : Nat} (I : Inv X pins σ H s)
    (q : R (Itr lo (hi - lo).toNat) H) : wpAny (model X.prog X.w) X.A (pyIter (.ref s.heap.objs.size)) (PIE X pins σ tg R) E { s with heap := s.heap.push { cls := .type "range", data := .fields #[.int lo t, .int hi u, .int 1 v] }, toks := tk } := by
  have J : Inv X pins σ H { s with heap := s.heap.push { cls := .type "range", data := .fields #[.int lo t, .int hi u, .int 1 v] }, toks := tk } := I.kept fun b o e => Heap.get?_push_of_some _ e
  have e1 : lo + ((0 : Nat) : Int) * 1 = lo := by simp
  have e2 : (((hi - lo).toNat : Nat) : Int) - ((0 : Nat) : Int) = Builtin.Range.rangeSize lo hi 1 := by
    rw [rangeSize_one]
    split <;> omega
  have fp : ∀ {h2 : Heap} {tk2 : Nat}, Inv X pins σ H { s with heap := h2, toks := tk2 } → ∀ b ∈ [(s.heap.push { cls := .type "range", data := .fields #[.int lo t, .int hi u, .int 1 v] }).objs.size], FpOk X pins H b := fun {h2 tk2} _ b hb => by
    have eb := List.mem_singleton.mp hb
    subst eb
    exact J.fpOk (Nat.le_refl _) (J.hok.fresh (Nat.le_refl _))
  cases hsm : Builtin.Range.small lo hi 1 with
  | true =>
    refine wpAny_pyIter_range (IsRange.new ..) hsm ?_
    refine ⟨_, [_], _, _, H, rfl, J.kept (t' := tk) fun b o e => Heap.get?_push_of_some _ e, turn_range _ lo (hi - lo).toNat, ?_, fp J, q⟩
    show IsRangeIter _ _ (lo + ((0 : Nat) : Int) * 1) ((((hi - lo).toNat : Nat) : Int) - ((0 : Nat) : Int)) 1
    rw [e1, e2]
    exact Heap.get?_push_size _ rfl
  | false =>
    refine wpAny_pyIter_longrange (IsRange.new ..) hsm ?_
    refine ⟨_, [_], _, _, H, rfl, J.kept (t' := tk) fun b o e => Heap.get?_push_of_some _ e, turn_long _ lo (hi - lo).toNat, ?_, fp J, q⟩
    show IsLongIter _ _ (lo + ((0 : Nat) : Int) * 1) ((((hi - lo).toNat : Nat) : Int) - ((0 : Nat) : Int)) 1
    rw [e1, e2]
    exact Heap.get?_push_size _ rfl
def iRngA (ta : TA) : TI := fun σ H R => ta σ H fun vs H1 => ∃ i j : Int, vs = [.int i, .int j] ∧ R (Itr i (j - i).toNat) H1
theorem pi_rangeA {X : Cx} {tg a b : Expr} {ta : TA} {p pos : Pos} (hg : Gl X "range") (hm : X.mg "range" = none) (ha : PA X [a, b] ta) (hs : starEach [a, b] X.env = [(false, eval a X.env), (false, eval b X.env)] := by rfl) (hs2 : starEach [b] X.env = [(false, eval b X.env)] := by rfl) :
    PI X tg (.Call (.Name "range" p) [a, b] [] pos) (iRngA ta) := by
  constructor
  intro pins s σ H R I h
  refine Call_ (ld_blt I hg hm boot_range (PyProof.Rows.callWith_type1 (thn (ha.run pos pins s σ H _ I h) fun us s1 hh => ?_) (by rw [hs, hs2]) (by rw [hs2]; rfl)))
  obtain ⟨vs, H1, I1, r1, i, j, e, q⟩ := hh
  subst e
  obtain ⟨u1, u2, rfl, ⟨t1, rfl⟩, ⟨t2, rfl⟩⟩ := vals2 r1
  exact call_range_2 (range_any I1 q)
end Nu
namespace Nu
open PySem PySem.Spec PyProof.Rows L2
theorem wipe1 (σ : L2.St) (i : Nat) (v : Option V) : wipe ((wipe σ [i]).set i v) [i] = wipe σ [i] := by
  show ((σ.set i none).set i v).set i none = σ.set i none
  rw [List.set_set, List.set_set]
/-- [c for x in range(d)] -/
theorem rd_const {i j : Nat} {c : V} {d : Int} {σ : L2.St} {H : Hp} {Q : VK} (h0 : σ[j]? = some (some (.int d))) (d0 : 0 ≤ d) (d1 : d ≤ 1000) (h : ∀ r H', H r = none → Same H H' → H' r = some (.lst (List.replicate d.toNat c)) → Q (.ref r) H') :
    tLc (iRng1 (tCons (tVar j) tNil)) (gName i) tYes (tC c) [i] σ H Q := by
  refine ⟨_, h0, d, rfl, by omega, by omega, fun D nD => ?_⟩
  refine ⟨fun k m H' => m = d.toNat - k ∧ k ≤ d.toNat ∧ Same H H' ∧ H' D = some (.lst (List.replicate k c)), ⟨d.toNat, rfl, Nat.zero_le _, same_upd nD, upd_same⟩, ?_⟩
  rintro k m H1 ⟨rfl, hk, s1, h1⟩
  by_cases hlt : k < d.toNat
  · refine .inr ⟨hlt, fun H' => Same H H' ∧ H' D = some (.lst (List.replicate (k + 1) c)), fun H' q => ⟨d.toNat - (k + 1), by omega, rfl, hlt, q⟩, fun x H2 y => ?_⟩
    obtain ⟨rfl, rfl⟩ := y
    refine ⟨wipe1 _ _ _, ?_⟩
    dsimp only [tYes]
    rw [if_pos rfl]
    refine ⟨_, h1, small1000 (by rw [List.length_replicate]; omega), fun b u e => ?_, ?_⟩
    · rw [upd_ne (fun z => by rw [z, nD] at e; cases e)]
      exact s1 b u e
    · rw [upd_same, repl_succ]
  · have ek : k = d.toNat := by omega
    subst ek
    exact .inl ⟨Nat.le_refl _, h D H1 nD s1 h1⟩
/-- [[] for x in range(d)] -/
theorem rd_empties {i j : Nat} {d : Int} {σ : L2.St} {H : Hp} {Q : VK} (h0 : σ[j]? = some (some (.int d))) (d0 : 0 ≤ d) (d1 : d ≤ 1000)
    (h : ∀ r H' (ls : List Addr), H r = none → Same H H' → ls.length = d.toNat → ls.Nodup → r ∉ ls → (∀ l ∈ ls, H l = none ∧ H' l = some (.lst [])) → H' r = some (.lst (ls.map V.ref)) → Q (.ref r) H') :
    tLc (iRng1 (tCons (tVar j) tNil)) (gName i) tYes (tLst tNil) [i] σ H Q := by
  refine ⟨_, h0, d, rfl, by omega, by omega, fun D nD => ?_⟩
  refine ⟨fun k m H' => m = d.toNat - k ∧ k ≤ d.toNat ∧ Same H H' ∧ ∃ ls : List Addr, ls.length = k ∧ ls.Nodup ∧ D ∉ ls ∧ (∀ l ∈ ls, H l = none ∧ H' l = some (.lst [])) ∧ H' D = some (.lst (ls.map V.ref)),
    ⟨d.toNat, rfl, Nat.zero_le _, same_upd nD, [], rfl, List.nodup_nil, by simp, (fun l hl => by cases hl), upd_same⟩, ?_⟩
  rintro k m H1 ⟨rfl, hk, s1, ls, l1, l2, l3, l4, l5⟩
  by_cases hlt : k < d.toNat
  · refine .inr ⟨hlt, fun H' => Same H H' ∧ ∃ ls : List Addr, ls.length = k + 1 ∧ ls.Nodup ∧ D ∉ ls ∧ (∀ l ∈ ls, H l = none ∧ H' l = some (.lst [])) ∧ H' D = some (.lst (ls.map V.ref)), fun H' q => ⟨d.toNat - (k + 1), by omega, rfl, hlt, q⟩, fun x H2 y => ?_⟩
    obtain ⟨rfl, rfl⟩ := y
    refine ⟨wipe1 _ _ _, ?_⟩
    dsimp only [tYes]
    rw [if_pos rfl]
    refine ⟨Nat.zero_le _, fun l nl => ?_⟩
    have lD : l ≠ D := fun z => by rw [z, l5] at nl; cases nl
    have lls : l ∉ ls := fun z => by rw [(l4 l z).2] at nl; cases nl
    have nl0 : H l = none := s1.free nl
    refine ⟨_, by rw [upd_ne lD.symm]; exact l5, small1000 (by rw [List.length_map]; omega), fun b u e => ?_, ls ++ [l], by rw [List.length_append, l1]; rfl, ?_, ?_, fun l' hl' => ?_, ?_⟩
    · rw [upd_ne (fun z => by rw [z, nD] at e; cases e), upd_ne (fun z => by rw [z, nl0] at e; cases e)]
      exact s1 b u e
    · exact List.nodup_append.mpr ⟨l2, by simp, fun x hx y hy z => lls (by rw [← List.mem_singleton.mp hy, ← z]; exact hx)⟩
    · intro z
      rcases List.mem_append.mp z with z | z
      · exact l3 z
      · exact lD (List.mem_singleton.mp z).symm
    · rcases List.mem_append.mp hl' with z | z
      · refine ⟨(l4 l' z).1, ?_⟩
        rw [upd_ne (fun q => l3 (by rw [← q]; exact z)), upd_ne (fun q => lls (by rw [← q]; exact z))]
        exact (l4 l' z).2
      · have z := List.mem_singleton.mp z
        subst z
        exact ⟨nl0, by rw [upd_ne lD]; exact upd_same⟩
    · rw [upd_same, List.map_append]
      rfl
  · have ek : k = d.toNat := by omega
    exact .inl ⟨by show d.toNat ≤ k; omega, h D H1 ls nD s1 (by omega) l2 l3 l4 l5⟩
theorem mergeK_app : ∀ (more kvs : List (Key × V)), ((kvs ++ more).map (·.1)).Nodup → mergeK kvs more = kvs ++ more
  | [], kvs, _ => by rw [List.append_nil]; rfl
  | p :: r, kvs, h => by
    have h1 : valV kvs p.1 = none := by
      cases e : valV kvs p.1 with
      | none => rfl
      | some v =>
        rw [List.map_append] at h
        exact absurd rfl ((List.nodup_append.mp h).2.2 p.1 (valV_in e) p.1 (by simp))
    show mergeK (putK kvs p.1 p.2) r = _
    rw [putK_new _ h1, mergeK_app r _ (by rw [List.append_assoc]; exact h), List.append_assoc]
    rfl
/-! ### the law's own office -/
structure Lm where
  top : Nat
  wd : Int → Option Str
  sn : Int → Bool
  ly : List (List Int)
  go : List Bool
  lo : List (Option Int)
structure La where
  m : Addr
  dW : Addr
  dN : Addr
  aY : Addr
  aG : Addr
  aO : Addr
  ys : List Addr
def La.foot (A : La) : List Addr := A.m :: A.dW :: A.dN :: A.aY :: A.aG :: A.aO :: A.ys
def mkv (A : La) (t : Nat) : List (Key × V) := [(.inr "top", .int (t : Int)), (.inr "words", .ref A.dW), (.inr "seen", .ref A.dN), (.inr "lying", .ref A.aY), (.inr "goes", .ref A.aG), (.inr "low", .ref A.aO)]
def oV : Option Int → V
  | some i => .int i
  | none => .non
structure WdK (kvs : List (Key × V)) (M : Lm) : Prop where
  nd : (kvs.map (·.1)).Nodup
  rg : ∀ k ∈ kvs.map (·.1), ∃ n : Int, k = Sum.inl n ∧ 1 ≤ n ∧ n ≤ (M.top : Int)
  at_ : ∀ n : Int, valV kvs (Sum.inl n) = (M.wd n).map V.str
structure SnK (kvs : List (Key × V)) (M : Lm) : Prop where
  nd : (kvs.map (·.1)).Nodup
  rg : ∀ k ∈ kvs.map (·.1), ∃ n : Int, k = Sum.inl n ∧ 1 ≤ n ∧ n ≤ (M.top : Int)
  at_ : ∀ n : Int, valV kvs (Sum.inl n) = if M.sn n = true then some (.bl true) else none
theorem keys_le {kvs : List (Key × V)} {t : Nat} (nd : (kvs.map (·.1)).Nodup) (rg : ∀ k ∈ kvs.map (·.1), ∃ n : Int, k = Sum.inl n ∧ 1 ≤ n ∧ n ≤ (t : Int)) : kvs.length ≤ t := by
  have aux : ∀ (l : List Key), l.Nodup → (∀ k ∈ l, ∃ n : Int, k = Sum.inl n ∧ 1 ≤ n ∧ n ≤ (t : Int)) → (l.map keyI).Nodup := by
    intro l
    induction l with
    | nil => intro _ _; exact List.nodup_nil
    | cons k r ih =>
      intro nd hh
      obtain ⟨hx, nr⟩ := List.nodup_cons.mp nd
      refine List.nodup_cons.mpr ⟨fun m => ?_, ih nr fun k' hk' => hh k' (List.mem_cons_of_mem _ hk')⟩
      obtain ⟨k', hk', e⟩ := List.mem_map.mp m
      obtain ⟨n, en, _⟩ := hh k List.mem_cons_self
      obtain ⟨n', en', _⟩ := hh k' (List.mem_cons_of_mem _ hk')
      rw [en, en'] at e
      have e' : n' = n := e
      exact hx (by rw [en, ← e', ← en']; exact hk')
  have h1 := le_of_nodup t _ (aux _ nd rg) fun x hx => by
    obtain ⟨k, hk, e⟩ := List.mem_map.mp hx
    obtain ⟨n, en, b⟩ := rg k hk
    rw [en] at e
    have e' : n = x := e
    rw [← e']
    exact b
  rw [List.length_map, List.length_map] at h1
  exact h1
structure Lw (H : Hp) (A : La) (M : Lm) : Prop where
  mm : H A.m = some (.dK (mkv A M.top))
  wd : ∃ kvs, H A.dW = some (.dK kvs) ∧ WdK kvs M
  sn : ∃ kvs, H A.dN = some (.dK kvs) ∧ SnK kvs M
  ly : H A.aY = some (.lst (A.ys.map V.ref))
  ll : A.ys.length = M.ly.length
  each : ∀ (i : Nat) (l : Addr) (ns : List Int), A.ys[i]? = some l → M.ly[i]? = some ns → H l = some (.lst (ns.map V.int))
  go : H A.aG = some (.lst (M.go.map V.bl))
  lo : H A.aO = some (.lst (M.lo.map oV))
  nd : A.foot.Nodup
theorem Lw.stay {H H' : Hp} {A : La} {M : Lm} (h : Lw H A M) (k : ∀ c ∈ A.foot, ∀ u, H c = some u → H' c = some u) : Lw H' A M := by
  obtain ⟨h1, ⟨w1, h2, h2'⟩, ⟨w2, h3, h3'⟩, h4, h5, h6, h7, h8, h9⟩ := h
  refine ⟨k _ (by simp [La.foot]) _ h1, ⟨w1, k _ (by simp [La.foot]) _ h2, h2'⟩, ⟨w2, k _ (by simp [La.foot]) _ h3, h3'⟩, k _ (by simp [La.foot]) _ h4, h5, fun i l ns e1 e2 => ?_, k _ (by simp [La.foot]) _ h7, k _ (by simp [La.foot]) _ h8, h9⟩
  have hm : l ∈ A.ys := List.mem_of_getElem? e1
  exact k _ (by simp [La.foot, hm]) _ (h6 i l ns e1 e2)
theorem Lw.has {H : Hp} {A : La} {M : Lm} (h : Lw H A M) : ∀ c ∈ A.foot, ∃ u, H c = some u := by
  intro c hc
  unfold La.foot at hc
  simp only [List.mem_cons] at hc
  rcases hc with rfl | rfl | rfl | rfl | rfl | rfl | hc
  · exact ⟨_, h.mm⟩
  · obtain ⟨w, e, _⟩ := h.wd
    exact ⟨_, e⟩
  · obtain ⟨w, e, _⟩ := h.sn
    exact ⟨_, e⟩
  · exact ⟨_, h.ly⟩
  · exact ⟨_, h.go⟩
  · exact ⟨_, h.lo⟩
  · obtain ⟨ix, hix, rfl⟩ := List.getElem_of_mem hc
    have hix2 : ix < M.ly.length := by rw [← h.ll]; exact hix
    exact ⟨_, h.each ix _ _ (List.getElem?_eq_getElem hix) (List.getElem?_eq_getElem hix2)⟩
theorem Lw.new {H : Hp} {A : La} {M : Lm} (h : Lw H A M) {t : Addr} (ht : H t = none) : t ∉ A.foot := fun z => by
  obtain ⟨u, e⟩ := h.has t z
  rw [ht] at e
  cases e
theorem Lw.upd_new {H : Hp} {A : La} {M : Lm} (h : Lw H A M) {t : Addr} {o : HO} (ht : H t = none) : Lw (upd H t o) A M := h.stay fun c hc u e => by
  rw [upd_ne (fun z => by rw [z, ht] at e; cases e)]
  exact e
theorem kne {x y : Str} (h : decide (x = y) = false) : ¬ ((Sum.inr x : Key) = Sum.inr y) := fun z => (of_decide_eq_false h) (Sum.inr.inj z)
theorem mk_top (A : La) (t : Nat) : valV (mkv A t) (Sum.inr "top") = some (.int (t : Int)) := valV_pos rfl
theorem mk_words (A : La) (t : Nat) : valV (mkv A t) (Sum.inr "words") = some (.ref A.dW) := by
  unfold mkv
  rw [valV_neg (kne (by decide +kernel)), valV_pos rfl]
theorem mk_seen (A : La) (t : Nat) : valV (mkv A t) (Sum.inr "seen") = some (.ref A.dN) := by
  unfold mkv
  rw [valV_neg (kne (by decide +kernel)), valV_neg (kne (by decide +kernel)), valV_pos rfl]
theorem mk_lying (A : La) (t : Nat) : valV (mkv A t) (Sum.inr "lying") = some (.ref A.aY) := by
  unfold mkv
  rw [valV_neg (kne (by decide +kernel)), valV_neg (kne (by decide +kernel)), valV_neg (kne (by decide +kernel)), valV_pos rfl]
theorem mk_goes (A : La) (t : Nat) : valV (mkv A t) (Sum.inr "goes") = some (.ref A.aG) := by
  unfold mkv
  rw [valV_neg (kne (by decide +kernel)), valV_neg (kne (by decide +kernel)), valV_neg (kne (by decide +kernel)), valV_neg (kne (by decide +kernel)), valV_pos rfl]
theorem mk_low (A : La) (t : Nat) : valV (mkv A t) (Sum.inr "low") = some (.ref A.aO) := by
  unfold mkv
  rw [valV_neg (kne (by decide +kernel)), valV_neg (kne (by decide +kernel)), valV_neg (kne (by decide +kernel)), valV_neg (kne (by decide +kernel)), valV_neg (kne (by decide +kernel)), valV_pos rfl]
section
variable {H : Hp} {A : La} {M : Lm} {σ : L2.St} {Q : VK} {i j : Nat}
theorem rd_mt (L : Lw H A M) (h0 : σ[i]? = some (some (.ref A.m))) (h : Q (.int (M.top : Int)) H) : tDGet (tVar i) (tC (.str "top")) σ H Q :=
  ⟨_, h0, A.m, _, rfl, (by have e := DGet.k (k := Sum.inr "top") L.mm; rw [mk_top] at e; exact e), h⟩
theorem rd_mw (L : Lw H A M) (h0 : σ[i]? = some (some (.ref A.m))) (h : Q (.ref A.dW) H) : tDGet (tVar i) (tC (.str "words")) σ H Q :=
  ⟨_, h0, A.m, _, rfl, (by have e := DGet.k (k := Sum.inr "words") L.mm; rw [mk_words] at e; exact e), h⟩
theorem rd_my (L : Lw H A M) (h0 : σ[i]? = some (some (.ref A.m))) (h : Q (.ref A.aY) H) : tDGet (tVar i) (tC (.str "lying")) σ H Q :=
  ⟨_, h0, A.m, _, rfl, (by have e := DGet.k (k := Sum.inr "lying") L.mm; rw [mk_lying] at e; exact e), h⟩
theorem rd_mg (L : Lw H A M) (h0 : σ[i]? = some (some (.ref A.m))) (h : Q (.ref A.aG) H) : tDGet (tVar i) (tC (.str "goes")) σ H Q :=
  ⟨_, h0, A.m, _, rfl, (by have e := DGet.k (k := Sum.inr "goes") L.mm; rw [mk_goes] at e; exact e), h⟩
/-- _law_m['lying'][desk] -/
theorem rd_my1 {K : PySem.W.Frag} (L : Lw H A M) (h0 : σ[i]? = some (some (.ref A.m))) {d : Nat} (h1 : σ[j]? = some (some (.int (d : Int)))) {l : Addr} (b : A.ys[d]? = some l) (h : Q (.ref l) H) : tOp (rIxL K) (tDGet (tVar i) (tC (.str "lying"))) (tVar j) σ H Q := by
  refine rd_my L h0 ?_
  refine ⟨_, h1, A.aY, _, _, _, rfl, rfl, SqL.of L.ly, atI_nat ?_, h⟩
  rw [List.getElem?_map, b]
  rfl
theorem rd_mg1 {K : PySem.W.Frag} (L : Lw H A M) (h0 : σ[i]? = some (some (.ref A.m))) {d : Nat} (h1 : σ[j]? = some (some (.int (d : Int)))) {z : Bool} (b : M.go[d]? = some z) (h : Q (.bl z) H) : tOp (rIxL K) (tDGet (tVar i) (tC (.str "goes"))) (tVar j) σ H Q := by
  refine rd_mg L h0 ?_
  refine ⟨_, h1, A.aG, _, _, _, rfl, rfl, SqL.of L.go, atI_nat ?_, h⟩
  rw [List.getElem?_map, b]
  rfl
/-- _law_m['lying'][desk] = value -/
theorem rd_myput {v : V} {d : Nat} {R : L2.St → Hp → Prop} (L : Lw H A M) (h0 : σ[i]? = some (some (.ref A.m))) (h1 : σ[j]? = some (some (.int (d : Int)))) (hd : d < A.ys.length) (h : R σ (upd H A.aY (.lst ((A.ys.map V.ref).set d v)))) : gSub (tDGet (tVar i) (tC (.str "lying"))) (tVar j) rSetL v σ H R := by
  refine rd_my L h0 ?_
  exact ⟨_, h1, A.aY, _, _, d, rfl, rfl, L.ly, ixN_nat (by rw [List.length_map]; exact hd), h⟩
end
end Nu
namespace Nu
open PySem PySem.Spec PyProof.Rows L2
def Lm.new (t d : Nat) : Lm := ⟨t, fun _ => none, fun _ => false, List.replicate d [], List.replicate d true, List.replicate d none⟩
structure Le (A : La) : Prop where
  m_dW : A.m ≠ A.dW
  m_dN : A.m ≠ A.dN
  m_aY : A.m ≠ A.aY
  m_aG : A.m ≠ A.aG
  m_aO : A.m ≠ A.aO
  m_ys : A.m ∉ A.ys
  dW_dN : A.dW ≠ A.dN
  dW_aY : A.dW ≠ A.aY
  dW_aG : A.dW ≠ A.aG
  dW_aO : A.dW ≠ A.aO
  dW_ys : A.dW ∉ A.ys
  dN_aY : A.dN ≠ A.aY
  dN_aG : A.dN ≠ A.aG
  dN_aO : A.dN ≠ A.aO
  dN_ys : A.dN ∉ A.ys
  aY_aG : A.aY ≠ A.aG
  aY_aO : A.aY ≠ A.aO
  aY_ys : A.aY ∉ A.ys
  aG_aO : A.aG ≠ A.aO
  aG_ys : A.aG ∉ A.ys
  aO_ys : A.aO ∉ A.ys
  ys : A.ys.Nodup
theorem Lw.ne {H : Hp} {A : La} {M : Lm} (L : Lw H A M) : Le A := by
  have h := L.nd
  unfold La.foot at h
  simp only [List.nodup_cons, List.mem_cons, not_or] at h
  obtain ⟨⟨h1, h2, h3, h4, h5, h6⟩, ⟨h7, h8, h9, h10, h11⟩, ⟨h12, h13, h14, h15⟩, ⟨h16, h17, h18⟩, ⟨h19, h20⟩, h21, h22⟩ := h
  exact ⟨h1, h2, h3, h4, h5, h6, h7, h8, h9, h10, h11, h12, h13, h14, h15, h16, h17, h18, h19, h20, h21, h22⟩
theorem mem_ne {l : List Addr} {c x : Addr} {i : Nat} (h : c ∉ l) (e : l[i]? = some x) : x ≠ c := fun z => h (by rw [← z]; exact List.mem_of_getElem? e)
theorem nodup_set {l : List Addr} {d : Nat} {r : Addr} (h : l.Nodup) (hr : r ∉ l) : (l.set d r).Nodup := by
  induction l generalizing d with
  | nil => simp
  | cons x t ih =>
    obtain ⟨h1, h2⟩ := List.nodup_cons.mp h
    have hx1 : r ≠ x := fun z => hr (by rw [z]; exact List.mem_cons_self)
    have hx2 : r ∉ t := fun z => hr (List.mem_cons_of_mem _ z)
    cases d with
    | zero => exact List.nodup_cons.mpr ⟨hx2, h2⟩
    | succ d =>
      refine List.nodup_cons.mpr ⟨fun z => ?_, ih h2 hx2⟩
      rcases List.mem_or_eq_of_mem_set z with q | q
      · exact h1 q
      · exact hx1 q.symm
theorem mem_lfoot_set {A : La} {d : Nat} {r c : Addr} (h : c ∈ ({ A with ys := A.ys.set d r } : La).foot) : c ∈ A.foot ∨ c = r := by
  unfold La.foot at h ⊢
  simp only [List.mem_cons] at h ⊢
  rcases h with h | h | h | h | h | h | h
  · exact .inl (.inl h)
  · exact .inl (.inr (.inl h))
  · exact .inl (.inr (.inr (.inl h)))
  · exact .inl (.inr (.inr (.inr (.inl h))))
  · exact .inl (.inr (.inr (.inr (.inr (.inl h)))))
  · exact .inl (.inr (.inr (.inr (.inr (.inr (.inl h))))))
  · rcases List.mem_or_eq_of_mem_set h with q | q
    · exact .inl (.inr (.inr (.inr (.inr (.inr (.inr q))))))
    · exact .inr q
section
variable {H : Hp} {A : La} {M : Lm}
/-- a row exchanged for a new list -/
theorem Lw.newRow (L : Lw H A M) {d : Nat} {r : Addr} {ns' : List Int} (hd : d < A.ys.length) (hl : H r = some (.lst (ns'.map V.int))) (hn : r ∉ A.foot) :
    Lw (upd H A.aY (.lst ((A.ys.set d r).map V.ref))) { A with ys := A.ys.set d r } { M with ly := M.ly.set d ns' } := by
  have n := L.ne
  obtain ⟨w1, e1, q1⟩ := L.wd
  obtain ⟨w2, e2, q2⟩ := L.sn
  have n' : r ≠ A.m ∧ r ≠ A.dW ∧ r ≠ A.dN ∧ r ≠ A.aY ∧ r ≠ A.aG ∧ r ≠ A.aO ∧ r ∉ A.ys := by
    unfold La.foot at hn
    simp only [List.mem_cons, not_or] at hn
    exact hn
  obtain ⟨m1, m2, m3, m4, m5, m6, m7⟩ := n'
  refine ⟨by rw [upd_ne n.m_aY]; exact L.mm, ⟨w1, by rw [upd_ne n.dW_aY]; exact e1, ⟨q1.nd, q1.rg, q1.at_⟩⟩, ⟨w2, by rw [upd_ne n.dN_aY]; exact e2, ⟨q2.nd, q2.rg, q2.at_⟩⟩, upd_same, by rw [List.length_set, List.length_set]; exact L.ll, fun i l ns f1 f2 => ?_, by rw [upd_ne n.aY_aG.symm]; exact L.go, by rw [upd_ne n.aY_aO.symm]; exact L.lo, ?_⟩
  · by_cases c : i = d
    · subst c
      have f1' : (A.ys.set i r)[i]? = some l := f1
      rw [List.getElem?_set_self hd] at f1'
      rw [List.getElem?_set_self (by rw [← L.ll]; exact hd)] at f2
      cases f1'
      cases f2
      rw [upd_ne m4]
      exact hl
    · have f1' : (A.ys.set d r)[i]? = some l := f1
      rw [List.getElem?_set_ne (Ne.symm c)] at f1'
      rw [List.getElem?_set_ne (Ne.symm c)] at f2
      rw [upd_ne (mem_ne n.aY_ys f1')]
      exact L.each i l ns f1' f2
  · have no : ∀ c, c ∉ A.ys → r ≠ c → c ∉ A.ys.set d r := fun c h1 h2 h3 => (List.mem_or_eq_of_mem_set h3).elim h1 fun z => h2 z.symm
    show (A.m :: A.dW :: A.dN :: A.aY :: A.aG :: A.aO :: A.ys.set d r).Nodup
    simp only [List.nodup_cons, List.mem_cons, not_or]
    exact ⟨⟨n.m_dW, n.m_dN, n.m_aY, n.m_aG, n.m_aO, no _ n.m_ys m1⟩, ⟨n.dW_dN, n.dW_aY, n.dW_aG, n.dW_aO, no _ n.dW_ys m2⟩, ⟨n.dN_aY, n.dN_aG, n.dN_aO, no _ n.dN_ys m3⟩, ⟨n.aY_aG, n.aY_aO, no _ n.aY_ys m4⟩, ⟨n.aG_aO, no _ n.aG_ys m5⟩, no _ n.aO_ys m6, nodup_set n.ys m7⟩
/-- the words' dict changed -/
theorem Lw.setW (L : Lw H A M) (wd' : Int → Option Str) {kvs : List (Key × V)} (hw : WdK kvs { M with wd := wd' }) : Lw (upd H A.dW (.dK kvs)) A { M with wd := wd' } := by
  have n := L.ne
  obtain ⟨w2, e2, q2⟩ := L.sn
  refine ⟨by rw [upd_ne n.m_dW]; exact L.mm, ⟨kvs, upd_same, hw⟩, ⟨w2, by rw [upd_ne n.dW_dN.symm]; exact e2, ⟨q2.nd, q2.rg, q2.at_⟩⟩, by rw [upd_ne n.dW_aY.symm]; exact L.ly, L.ll, fun i l ns f1 f2 => ?_, by rw [upd_ne n.dW_aG.symm]; exact L.go, by rw [upd_ne n.dW_aO.symm]; exact L.lo, L.nd⟩
  rw [upd_ne (mem_ne n.dW_ys f1)]
  exact L.each i l ns f1 f2
end
/-- the heap behind a deed of the law's own office -/
structure LBeh (H H' : Hp) (A A' : La) (M' : Lm) : Prop where
  kp : Keep A.foot H H'
  ff : ∀ c ∈ A'.foot, c ∈ A.foot ∨ H c = none
  mm : A'.m = A.m
  lw : Lw H' A' M'
theorem lfoot_aY (A : La) : A.aY ∈ A.foot := by simp [La.foot]
theorem lfoot_dW (A : La) : A.dW ∈ A.foot := by simp [La.foot]
theorem LBeh.newRow {H0 H : Hp} {A : La} {M : Lm} {d : Nat} {r : Addr} (L : Lw H A M) (k : Keep A.foot H0 H) (hr : H r = none) (hd : d < A.ys.length) (ns' : List Int) :
    LBeh H0 (upd (upd H r (.lst (ns'.map V.int))) A.aY (.lst ((A.ys.set d r).map V.ref))) A { A with ys := A.ys.set d r } { M with ly := M.ly.set d ns' } := by
  have hn := L.new hr
  refine ⟨(k.trans (keep_upd (.inr hr))).trans (keep_upd (.inl (lfoot_aY A))), fun c hc => ?_, rfl, (L.upd_new hr).newRow hd upd_same hn⟩
  rcases mem_lfoot_set hc with q | q
  · exact .inl q
  · rw [q]
    exact .inr (k.free hr hn)
section
variable {P : Program} {w : World} {K : PySem.W.Frag} {mg : Str → Option Value} {base : Heap} {a : Ad} {fd : Fd}
theorem pairs_cons {tk tv : TE} {r : List (TE × TE)} {σ : L2.St} {H : Hp} {Q : List (V × V) → Hp → Prop} (h : tk σ H fun x H1 => tv σ H1 fun y H2 => tPairs r σ H2 fun ps H3 => Q ((x, y) :: ps) H3) : tPairs ((tk, tv) :: r) σ H Q := by
  unfold tPairs
  exact h
theorem rd_c {v : V} {σ : L2.St} {H : Hp} {Q : VK} (h : Q v H) : tC v σ H Q := h
theorem pairs_nil {σ : L2.St} {H : Hp} {Q : List (V × V) → Hp → Prop} (h : Q [] H) : tPairs [] σ H Q := by
  unfold tPairs
  exact h
def spLOffice : Sp := fun vs H Q _ => ∃ (t d : Nat), vs = [.int (t : Int), .int (d : Int)] ∧ d ≤ 1000 ∧ ∀ A H', Same H H' → (∀ c ∈ A.foot, H c = none) → Lw H' A (Lm.new t d) → Q (.ref A.m) H'
theorem ok_l_office (T : Txt K mg a fd) : FnOk P w K mg base CX0 1 a.l_office fd.l_office ["_law_top", "_law_desks"] spLOffice := by
  refine T.F_l_office.ok sc_l_office (fun vs H Q E h => ?_) (fun cdv A outer s H vs Q E hr h => ?_)
  · obtain ⟨t, d, rfl, _⟩ := h
    rfl
  · obtain ⟨t, d, rfl, hd, k⟩ := h
    refine ⟨_, (pss_cons (ps_set (i := 2) sc_l_office.nd rfl (Or.inl rfl) (pe_disp (pps_cons pe_str (pv 0) (pps_cons pe_str pe_dnewK (pps_cons pe_str pe_dnewK (pps_cons pe_str (pe_lc (own := [("_law_k", 3)]) (g := gName 3) (by rfl) sc_l_office.nd (pi_range1 (by rfl) T.n_range (pa_cons (pv 1) pa_nil)) (blkOk_by (own := [("_law_k", 3)]) (N := ["_law_top", "_law_desks", "_law_found_here", "_law_k"]) (sc := defScope s_l_office) (by decide +kernel)) (fun _ _ _ _ _ => pg_name (i := 3) sc_l_office.nd rfl (Or.inl rfl)) (fun _ _ _ _ _ => pts_nil) (fun _ _ _ _ _ => (pe_lst pa_nil))) pps_nil)))) (by rfl) (by rfl) (fun z => by cases z) (by decide)))
    (pss_cons (ps_expr (pe_bm PySem.F.plainAttrs_dict PySem.F.slot_dict_update PySem.F.type_dict_update mtd_update (pv 2) (pa_cons (pe_disp (pps_cons pe_str (pe_lc (own := [("_law_k", 3)]) (g := gName 3) (by rfl) sc_l_office.nd (pi_range1 (by rfl) T.n_range (pa_cons (pv 1) pa_nil)) (blkOk_by (own := [("_law_k", 3)]) (N := ["_law_top", "_law_desks", "_law_found_here", "_law_k"]) (sc := defScope s_l_office) (by decide +kernel)) (fun _ _ _ _ _ => pg_name (i := 3) sc_l_office.nd rfl (Or.inl rfl)) (fun _ _ _ _ _ => pts_nil) (fun _ _ _ _ _ => pe_bl)) (pps_cons pe_str (pe_lc (own := [("_law_k", 3)]) (g := gName 3) (by rfl) sc_l_office.nd (pi_range1 (by rfl) T.n_range (pa_cons (pv 1) pa_nil)) (blkOk_by (own := [("_law_k", 3)]) (N := ["_law_top", "_law_desks", "_law_found_here", "_law_k"]) (sc := defScope s_l_office) (by decide +kernel)) (fun _ _ _ _ _ => pg_name (i := 3) sc_l_office.nd rfl (Or.inl rfl)) (fun _ _ _ _ _ => pts_nil) (fun _ _ _ _ _ => pe_non)) pps_nil)) (by rfl) (by rfl) (fun z => by cases z) (by decide)) pa_nil)))
    (pss_one (ps_ret (pv 2))))), ?_⟩
    intro p np
    refine pairs_cons ⟨_, rfl, ?_⟩
    refine pairs_cons ?_
    intro dW nW
    refine pairs_cons ?_
    intro dN nN
    refine pairs_cons ?_
    refine rd_c ?_
    refine rd_empties (i := 3) (j := 1) (d := (d : Int)) rfl (by omega) (by omega) fun aY H1 ys nY s1 l1 l2 l3 l4 l5 => ?_
    refine pairs_nil ?_
    have npW : p ≠ dW := fun z => by rw [← z, upd_same] at nW; cases nW
    have npN : p ≠ dN := fun z => by rw [← z, upd_ne npW, upd_same] at nN; cases nN
    have nWN : dW ≠ dN := fun z => by rw [← z, upd_same] at nN; cases nN
    have npY : p ≠ aY := fun z => by rw [← z, upd_ne npN, upd_ne npW, upd_same] at nY; cases nY
    have nWY : dW ≠ aY := fun z => by rw [← z, upd_ne nWN, upd_same] at nY; cases nY
    have nNY : dN ≠ aY := fun z => by rw [← z, upd_same] at nY; cases nY
    have s0 : Same H (upd (upd (upd H p (.dK [])) dW (.dK [])) dN (.dK [])) := ((same_upd np).trans (same_upd nW)).trans (same_upd nN)
    have e1p : H1 p = some (.dK []) := s1 _ _ (by rw [upd_ne npN, upd_ne npW]; exact upd_same)
    have e1W : H1 dW = some (.dK []) := s1 _ _ (by rw [upd_ne nWN]; exact upd_same)
    have e1N : H1 dN = some (.dK []) := s1 _ _ upd_same
    refine ⟨e1p, [(.inr "top", .int (t : Int)), (.inr "words", .ref dW), (.inr "seen", .ref dN), (.inr "lying", .ref aY)], rfl, (by show 4 ≤ 15; decide), ?_⟩
    rw [mergeK_app _ _ (by show [(Sum.inr "top" : Key), Sum.inr "words", Sum.inr "seen", Sum.inr "lying"].Nodup; decide +kernel)]
    -- update
    refine ⟨_, rfl, .inr (.inr (.inl ⟨rfl, .inl ⟨_, upd_same⟩⟩)), ?_⟩
    intro q nq
    refine pairs_cons ?_
    refine rd_c ?_
    refine rd_const (i := 3) (j := 1) (d := (d : Int)) rfl (by omega) (by omega) fun aG H2 nG s2 e2 => ?_
    refine pairs_cons ?_
    refine rd_c ?_
    refine rd_const (i := 3) (j := 1) (d := (d : Int)) rfl (by omega) (by omega) fun aO H3 nO s3 e3 => ?_
    refine pairs_nil ?_
    have npq : p ≠ q := fun z => by rw [← z, upd_same] at nq; cases nq
    have up : ∀ c u, c ≠ p → H1 c = some u → H3 c = some u := fun c u cp e => s3 _ _ (s2 _ _ (by rw [upd_ne (fun z => by rw [← z, upd_ne cp, e] at nq; cases nq), upd_ne cp]; exact e))
    have e3q : H3 q = some (.dK []) := s3 _ _ (s2 _ _ upd_same)
    have e3p : H3 p = some (.dK ([] ++ [(.inr "top", .int (t : Int)), (.inr "words", .ref dW), (.inr "seen", .ref dN), (.inr "lying", .ref aY)])) := s3 _ _ (s2 _ _ (by rw [upd_ne npq]; exact upd_same))
    refine ⟨e3q, [(.inr "goes", .ref aG), (.inr "low", .ref aO)], rfl, (by show 2 ≤ 15; decide), ?_⟩
    rw [mergeK_app [(.inr "goes", .ref aG), (.inr "low", .ref aO)] [] (by show [(Sum.inr "goes" : Key), Sum.inr "low"].Nodup; decide +kernel)]
    refine ⟨p, q, _, _, rfl, rfl, npq, by rw [upd_ne npq]; exact e3p, upd_same, (by show 6 ≤ sizeLine; decide), ?_⟩
    rw [mergeK_app _ _ (by show [(Sum.inr "top" : Key), Sum.inr "words", Sum.inr "seen", Sum.inr "lying", Sum.inr "goes", Sum.inr "low"].Nodup; decide +kernel)]
    have fr1 : ∀ c, H1 c = none → H c = none := fun c hc => s0.free (s1.free hc)
    have fr2 : ∀ c, c ≠ p → H2 c = none → H c = none := fun c cp hc => by
      have h := s2.free hc
      have cq : c ≠ q := fun z => by rw [z, upd_same] at h; cases h
      rw [upd_ne cq, upd_ne cp] at h
      exact fr1 c h
    have nGp : aG ≠ p := fun z => by rw [z, upd_ne npq, upd_same] at nG; cases nG
    have nGq : aG ≠ q := fun z => by rw [z, upd_same] at nG; cases nG
    have nG1 : H1 aG = none := by rw [upd_ne nGq, upd_ne nGp] at nG; exact nG
    have nOp : aO ≠ p := fun z => by rw [z] at nO; rw [s2 _ _ (show (upd (upd H1 p _) q _) p = _ by rw [upd_ne npq]; exact upd_same)] at nO; cases nO
    have nOq : aO ≠ q := fun z => by rw [z, s2 _ _ upd_same] at nO; cases nO
    have nOG : aO ≠ aG := fun z => by rw [z, e2] at nO; cases nO
    have nO1 : H1 aO = none := by
      have h := s2.free nO
      rw [upd_ne nOq, upd_ne nOp] at h
      exact h
    have H0p : H p = none := np
    have H0W : H dW = none := by rw [upd_ne npW.symm] at nW; exact nW
    have H0N : H dN = none := by rw [upd_ne nWN.symm, upd_ne npN.symm] at nN; exact nN
    have nqc : ∀ c u, H1 c = some u → c ≠ p → c ≠ q := fun c u e cp z => by rw [z] at e cp; rw [upd_ne cp, e] at nq; cases nq
    have kq : ∀ c u, c ≠ p → c ≠ q → H3 c = some u → (upd (upd H3 q (.dK [(.inr "goes", .ref aG), (.inr "low", .ref aO)])) p (.dK ([] ++ [(.inr "top", .int (t : Int)), (.inr "words", .ref dW), (.inr "seen", .ref dN), (.inr "lying", .ref aY)] ++ [(.inr "goes", .ref aG), (.inr "low", .ref aO)]))) c = some u := fun c u cp cq e => by rw [upd_ne cp, upd_ne cq]; exact e
    have one : ∀ c u, H1 c = some u → c ≠ p → (upd (upd H3 q (.dK [(.inr "goes", .ref aG), (.inr "low", .ref aO)])) p (.dK ([] ++ [(.inr "top", .int (t : Int)), (.inr "words", .ref dW), (.inr "seen", .ref dN), (.inr "lying", .ref aY)] ++ [(.inr "goes", .ref aG), (.inr "low", .ref aO)]))) c = some u := fun c u e cp => kq c u cp (nqc c u e cp) (up c u cp e)
    have ysp : ∀ l ∈ ys, l ≠ p := fun l hl z => by have := (l4 l hl).1; rw [z, upd_ne npN, upd_ne npW, upd_same] at this; cases this
    have nl : ∀ c u, (upd (upd (upd H p (.dK [])) dW (.dK [])) dN (.dK [])) c = some u → c ∉ ys := fun c u e z => by rw [(l4 c z).1] at e; cases e
    have nl1 : ∀ c, H1 c = none → c ∉ ys := fun c e z => by rw [(l4 c z).2] at e; cases e
    refine ⟨_, rfl, k ⟨p, dW, dN, aY, aG, aO, ys⟩ _ (fun c u e => ?_) (fun c hc => ?_) ⟨upd_same, ⟨[], one _ _ e1W npW.symm, ?_⟩, ⟨[], one _ _ e1N npN.symm, ?_⟩, one _ _ l5 npY.symm, ?_, fun i' l ns f1 f2 => ?_, ?_, ?_, ?_⟩⟩
    · have cp : c ≠ p := fun z => by rw [z, np] at e; cases e
      exact one c u (s1 _ _ (s0 _ _ e)) cp
    · simp only [La.foot, List.mem_cons] at hc
      rcases hc with rfl | rfl | rfl | rfl | rfl | rfl | hc
      · exact H0p
      · exact H0W
      · exact H0N
      · exact s0.free nY
      · exact fr1 _ nG1
      · exact fr1 _ nO1
      · exact s0.free (l4 c hc).1
    · exact ⟨List.nodup_nil, (fun k hk => by cases hk), fun n => rfl⟩
    · exact ⟨List.nodup_nil, (fun k hk => by cases hk), fun n => rfl⟩
    · show ys.length = (List.replicate d ([] : List Int)).length
      rw [List.length_replicate, l1]
      omega
    · have f1 : ys[i']? = some l := f1
      have f2 : (List.replicate d ([] : List Int))[i']? = some ns := f2
      have hm := List.mem_of_getElem? f1
      have : ns = [] := (List.mem_replicate.mp (List.mem_of_getElem? f2)).2
      subst this
      exact one _ _ (l4 l hm).2 (ysp l hm)
    · refine (kq aG _ nGp nGq (s3 _ _ e2)).trans ?_
      show some (HO.lst (List.replicate (d : Int).toNat (V.bl true))) = some (HO.lst ((List.replicate d true).map V.bl))
      rw [List.map_replicate, Int.toNat_natCast]
    · refine (kq aO _ nOp nOq e3).trans ?_
      show some (HO.lst (List.replicate (d : Int).toNat V.non)) = some (HO.lst ((List.replicate d (none : Option Int)).map oV))
      rw [List.map_replicate, Int.toNat_natCast]
      rfl
    · show (p :: dW :: dN :: aY :: aG :: aO :: ys).Nodup
      have nGW : dW ≠ aG := fun z => by rw [← z, e1W] at nG1; cases nG1
      have nGN : dN ≠ aG := fun z => by rw [← z, e1N] at nG1; cases nG1
      have nGY : aY ≠ aG := fun z => by rw [← z, l5] at nG1; cases nG1
      have nOW : dW ≠ aO := fun z => by rw [← z, e1W] at nO1; cases nO1
      have nON : dN ≠ aO := fun z => by rw [← z, e1N] at nO1; cases nO1
      have nOY : aY ≠ aO := fun z => by rw [← z, l5] at nO1; cases nO1
      simp only [List.nodup_cons, List.mem_cons, not_or]
      exact ⟨⟨npW, npN, npY, nGp.symm, nOp.symm, fun z => ysp p z rfl⟩, ⟨nWN, nWY, nGW, nOW, nl dW (.dK []) (by rw [upd_ne nWN]; exact upd_same)⟩, ⟨nNY, nGN, nON, nl dN (.dK []) upd_same⟩, ⟨nGY, nOY, l3⟩, ⟨nOG.symm, nl1 _ nG1⟩, nl1 _ nO1, l2⟩
end
end Nu
namespace Nu
open PySem PySem.Spec PyProof.Rows L2
/-! ### flat data -/
def dV : V → PyData
  | .bl b => .bool b
  | .int i => .int i
  | .str x => .str x
  | _ => .none
def flS : V → Bool
  | .non => true
  | .bl _ => true
  | .int _ => true
  | .str x => PyData.canLay0 (.str x)
  | _ => false
theorem dp_flat {K : PySem.W.Frag} {H : Hp} {x : V} (h : flS x = true) : Dp K H x (dV x) := by
  cases x with
  | non => exact .non
  | bl b => exact .bl b
  | int i => exact .int i
  | str z => exact .str z
  | byt _ => cases h
  | flt _ => cases h
  | ref _ => cases h
  | ty _ => cases h
theorem dp_flats {K : PySem.W.Frag} {H : Hp} : ∀ (xs : List V), (∀ x ∈ xs, flS x = true) → DpAll K H xs (xs.map dV)
  | [], _ => .nil
  | x :: r, h => .cons (dp_flat (h x List.mem_cons_self)) (dp_flats r fun y hy => h y (List.mem_cons_of_mem _ hy))
theorem flat_lay : ∀ (xs : List V), (∀ x ∈ xs, flS x = true) → PyData.canLayAll0 (xs.map dV) = true
  | [], _ => by simp [PyData.canLayAll0]
  | x :: r, h => by
    have h1 := flat_lay r fun y hy => h y (List.mem_cons_of_mem _ hy)
    have h2 := h x List.mem_cons_self
    rw [List.map_cons]
    unfold PyData.canLayAll0
    rw [h1, Bool.and_true]
    cases x <;> first | rfl | exact h2 | cases h2 | (simp only [dV, PyData.canLay0])
theorem flat_depth : ∀ (xs : List V), PyData.depthAll (xs.map dV) = 0
  | [] => by simp [PyData.depthAll]
  | x :: r => by
    have h1 := flat_depth r
    have h2 : PyData.depth (dV x) = 0 := by cases x <;> simp [dV, PyData.depth]
    rw [List.map_cons]
    unfold PyData.depthAll
    rw [h1, h2]
    rfl
theorem flat_shaped {xs : List V} (h : ∀ x ∈ xs, flS x = true) : SeqAt.shaped (.list (xs.map dV)) = true := by
  have e : PyData.depth (.list (xs.map dV)) = 1 := by
    simp only [PyData.depth, flat_depth]
  have e2 : PyData.canLay0 (.list (xs.map dV)) = true := by
    simp only [PyData.canLay0]
    exact flat_lay xs h
  unfold SeqAt.shaped
  rw [e, e2]
  rfl
/-- a list of flat things compared with an empty one -/
theorem eq_nil {K : PySem.W.Frag} {H : Hp} {p e : Addr} {xs : List V} {Q : VK} (hp : H p = some (.lst xs)) (he : H e = some (.lst [])) (hf : ∀ x ∈ xs, flS x = true) (q : Q (.bl xs.isEmpty) H) : rEqD K (.ref p) (.ref e) H Q := by
  refine ⟨.list (xs.map dV), .list [], .lst (SqL.of hp) (dp_flats xs hf), .lst (SqL.of he) .nil, flat_shaped hf, by decide, ?_⟩
  cases xs with
  | nil => exact q
  | cons x r => exact q
theorem ne_nil {K : PySem.W.Frag} {H : Hp} {p e : Addr} {xs : List V} {Q : VK} (hp : H p = some (.lst xs)) (he : H e = some (.lst [])) (hf : ∀ x ∈ xs, flS x = true) (q : Q (.bl (!xs.isEmpty)) H) : rNeD K (.ref p) (.ref e) H Q := by
  refine ⟨.list (xs.map dV), .list [], .lst (SqL.of hp) (dp_flats xs hf), .lst (SqL.of he) .nil, flat_shaped hf, by decide, ?_⟩
  cases xs with
  | nil => exact q
  | cons x r => exact q
theorem rgV_blk (f : Int) (k : Nat) : rgV f (f + (k : Int)) = (blk f k).map V.int := by
  unfold rgV blk
  rw [List.map_map, show (f + (k : Int) - f).toNat = k by omega]
  rfl
/-! ### what is taken -/
def Lm.taken (M : Lm) (n : Int) : Prop := (M.wd n).isSome = true ∨ ∃ (i : Nat) (ns : List Int), M.ly[i]? = some ns ∧ n ∈ ns
def FitM (M : Lm) (m f : Int) : Prop := 1 ≤ f ∧ f + m - 1 ≤ (M.top : Int) ∧ ∀ n, f ≤ n → n < f + m → ¬ M.taken n
def LeastM (M : Lm) (m f : Int) : Prop := FitM M m f ∧ ∀ g, g < f → ¬ FitM M m g
structure WfM (M : Lm) : Prop where
  t400 : M.top ≤ 400
  d6 : M.ly.length ≤ 6
  len : ∀ (d : Nat) (ns : List Int), M.ly[d]? = some ns → ns.length ≤ 400
section
variable {P : Program} {w : World} {K : PySem.W.Frag} {mg : Str → Option Value} {base : Heap} {a : Ad} {fd : Fd}
def spLLent : Sp := fun vs H Q _ => ∃ (A : La) (M : Lm) (d : Nat) (m : Int), vs = [.ref A.m, .int (d : Int), .int m] ∧ Lw H A M ∧ WfM M ∧ d < M.ly.length ∧
  (m < 1 → Q (.str "NoCount") H) ∧ (1 ≤ m → (∀ f, ¬ FitM M m f) → ∀ H', Same H H' → Q (.str "NoRoom") H') ∧
  (1 ≤ m → ∀ f, LeastM M m f → ∀ A' H' t, LBeh H H' A A' { M with ly := M.ly.set d ((M.ly.getD d []) ++ blk f m.toNat) } → H t = none → t ∉ A'.foot → H' t = some (.tup [.int f, .int (f + m - 1)]) → Q (.ref t) H')
theorem ok_l_lent (T : Txt K mg a fd) : FnOk P w K mg base CX0 1 a.l_lent fd.l_lent ["_law_m", "_law_desk", "_law_many"] spLLent := by
  refine T.F_l_lent.ok sc_l_lent (fun vs H Q E h => ?_) (fun cdv A0 outer s H vs Q E hr h => ?_)
  · obtain ⟨A, M, d, m, rfl, _⟩ := h
    rfl
  · obtain ⟨A, M, d, m, rfl, L, W, hd, k1, k2, k3⟩ := h
    have hu := hu_of hr
    refine ⟨_, (pss_cons (ps_if (pt_cmpR op_lt (pv 2) pe_int (nomark _)) (pss_one (ps_ret pe_str)) pss_nil)
    (pss_cons (ps_set (i := 3) sc_l_lent.nd rfl (Or.inr rfl) (pe_callTy call_dictD (by rfl) T.n_dict (by decide +kernel) (pa_cons (pe_dget hu (pv 0) pe_str (fun _ _ => rfl)) pa_nil)))
    (pss_cons (ps_for PassesOwn.never rfl (pi_list (pe_dget hu (pv 0) pe_str (fun _ _ => rfl))) (pg_name (i := 4) sc_l_lent.nd rfl (Or.inl rfl))
      (pss_one (ps_for PassesOwn.never rfl (pi_list (pv 4)) (pg_name (i := 5) sc_l_lent.nd rfl (Or.inl rfl))
      (pss_one (ps_dput hu (pv 3) (pv 5) pe_bl rfl)))))
    (pss_cons (ps_for PassesOwn.never rfl (pi_rangeA (by rfl) T.n_range (pa_cons pe_int (pa_cons (pe_op op_add (pe_op op_sub (pe_dget hu (pv 0) pe_str (fun _ _ => rfl)) (pv 2)) pe_int) pa_nil))) (pg_name (i := 6) sc_l_lent.nd rfl (Or.inl rfl))
      (pss_cons (ps_set (i := 7) sc_l_lent.nd rfl (Or.inl rfl) (pe_listRg rfl (by rfl) T.n_list (prg_2 (by rfl) T.n_range (pv 6) (pe_op op_add (pv 6) (pv 2)))))
    (pss_one (ps_if (pt_cmpR (op_eqD hr.units) (pe_lc (own := [("_law_number", 5)]) (g := gName 5) (by rfl) sc_l_lent.nd (pi_list (pv 7)) (blkOk_by (own := [("_law_number", 5)]) (N := ["_law_m", "_law_desk", "_law_many", "_law_taken", "_law_row", "_law_number", "_law_first", "_law_block"]) (sc := defScope s_l_lent) (by decide +kernel)) (fun _ _ _ _ _ => pg_name (i := 5) sc_l_lent.nd rfl (Or.inl rfl)) (fun _ _ _ _ _ => (pts_one (pt_cmp (pc_din hu (pv 5) (pv 3))))) (fun _ _ _ _ _ => (pv 5))) (pe_lst pa_nil) (nomark _)) (pss_cons (ps_asg (pe_op op_cat (pe_ix ix_list (pe_dget hu (pv 0) pe_str (fun _ _ => rfl)) (pv 1) (fun _ _ => rfl)) (pv 7)) (pg_sub (pe_dget hu (pv 0) pe_str (fun _ _ => rfl)) (pv 1) set_list))
    (pss_one (ps_ret (pe_tup (pa_cons (pv 6) (pa_cons (pe_ix ix_list (pv 7) (pe_un un_neg pe_int) (fun _ _ => rfl)) pa_nil)))))) pss_nil))))
    (pss_one (ps_ret pe_str)))))), ?_⟩
    refine ⟨_, rfl, _, _, rfl, rfl, _, rfl, ?_⟩
    by_cases c1 : m < 1
    · rw [decide_eq_true c1]
      exact iteT (k1 c1)
    · rw [decide_eq_false c1]
      refine iteF ?_
      have m1 : 1 ≤ m := by omega
      obtain ⟨kw, ew, qw⟩ := L.wd
      have lenw : kw.length ≤ 400 := Nat.le_trans (keys_le qw.nd qw.rg) W.t400
      -- taken = dict(words)
      refine rd_mw L rfl ?_
      refine ⟨A.dW, kw, rfl, .inl ew, fun D nD => ?_⟩
      have L1 : Lw (upd H D (.dK kw)) A M := L.upd_new nD
      have DA : D ∉ A.foot := L.new nD
      have k0 : ∀ {H' : Hp}, Keep [D] (upd H D (.dK kw)) H' → Same H H' := fun {H'} kp c u e => kp c u (same_upd nD c u e) (fun z => by rw [List.mem_singleton.mp z, nD] at e; cases e)
      have L0 : ∀ {H' : Hp}, Keep [D] (upd H D (.dK kw)) H' → Lw H' A M := fun {H'} kp => L.stay fun c _ u e => k0 kp c u e
      -- the lying numbers
      refine rd_my L1 rfl ?_
      refine ⟨A.aY, rfl, ⟨_, SqL.of L1.ly⟩, for_list (K := K) (a := A.aY) (xs := A.ys.map V.ref) (fun i σ H' => ∃ (v4 v5 : Option V) (kvs : List (Key × V)), σ = [some (.ref A.m), some (.int (d : Int)), some (.int m), some (.ref D), v4, v5, none, none] ∧ Keep [D] (upd H D (.dK kw)) H' ∧ H' D = some (.dK kvs) ∧
          kvs.length ≤ 400 + 400 * i ∧ ∀ n : Int, (valV kvs (Sum.inl n)).isSome = true ↔ ((M.wd n).isSome = true ∨ ∃ (i' : Nat) (ns : List Int), i' < i ∧ M.ly[i']? = some ns ∧ n ∈ ns))
        ⟨none, none, kw, rfl, Keep.refl _ _, upd_same, by omega, fun n => ?_⟩ (fun i σ H' _ ⟨_, _, _, _, kp, _⟩ => SqL.of (L0 kp).ly) ?_ ?_⟩
      · rw [qw.at_ n, Option.isSome_map]
        exact ⟨.inl, fun h => h.elim id fun ⟨i', _, hi', _⟩ => by omega⟩
      · rintro i x σ H' hx ⟨v4, v5, kvs, rfl, kp, eD, lenk, hk⟩
        obtain ⟨l, hl, rfl⟩ : ∃ l, A.ys[i]? = some l ∧ x = V.ref l := by
          rw [List.getElem?_map] at hx
          cases e : A.ys[i]? with
          | none => rw [e] at hx; cases hx
          | some l => rw [e] at hx; exact ⟨l, rfl, (Option.some.inj hx).symm⟩
        have hi : i < M.ly.length := by rw [← L.ll]; exact (List.getElem?_eq_some_iff.mp hl).1
        have hns : M.ly[i]? = some M.ly[i] := List.getElem?_eq_getElem hi
        have el : ∀ {H' : Hp}, Keep [D] (upd H D (.dK kw)) H' → H' l = some (.lst (M.ly[i].map V.int)) := fun {H'} kp => (L0 kp).each i l _ hl hns
        have len4 := W.len i _ hns
        refine ⟨_, rfl, l, rfl, ⟨_, SqL.of (el kp)⟩, for_list (K := K) (a := l) (xs := M.ly[i].map V.int) (fun j σ H' => ∃ (v5 : Option V) (kvs : List (Key × V)), σ = [some (.ref A.m), some (.int (d : Int)), some (.int m), some (.ref D), some (.ref l), v5, none, none] ∧ Keep [D] (upd H D (.dK kw)) H' ∧ H' D = some (.dK kvs) ∧
            kvs.length ≤ 400 + 400 * i + j ∧ ∀ n : Int, (valV kvs (Sum.inl n)).isSome = true ↔ (((M.wd n).isSome = true ∨ ∃ (i' : Nat) (ns : List Int), i' < i ∧ M.ly[i']? = some ns ∧ n ∈ ns) ∨ n ∈ M.ly[i].take j))
          ⟨v5, kvs, rfl, kp, eD, by omega, fun n => by rw [hk n]; simp⟩ (fun j σ H' _ ⟨_, _, _, kp, _⟩ => SqL.of (el kp)) ?_ ?_⟩
        · rintro j x σ H2 hx ⟨v5, kvs2, rfl, kp2, eD2, lenk2, hk2⟩
          obtain ⟨n, hn, rfl⟩ := map_int_at hx
          have hj : j < M.ly[i].length := (List.getElem?_eq_some_iff.mp hn).1
          refine ⟨_, rfl, _, rfl, D, _, rfl, DPut.k (k := Sum.inl n) eD2 (Nat.lt_of_le_of_lt lenk2 (by have := W.d6; rw [sizeLine_eq]; omega)), ?_⟩
          refine ⟨_, _, rfl, kp2.trans (keep_upd (.inl (List.mem_singleton.mpr rfl))), upd_same, ?_, fun n' => ?_⟩
          · have := length_putK kvs2 (Sum.inl n : Key) (V.bl true)
            omega
          · rw [valV_put, take_snoc hn]
            by_cases c : n' = n
            · rw [if_pos (by rw [c])]
              exact ⟨fun _ => .inr (by rw [c]; simp), fun _ => rfl⟩
            · rw [if_neg (fun z => c (Sum.inl.inj z)), hk2 n']
              simp [c]
        · rintro σ H2 ⟨v5, kvs2, rfl, kp2, eD2, lenk2, hk2⟩
          rw [List.length_map] at lenk2 hk2
          refine ⟨_, _, kvs2, rfl, kp2, eD2, by omega, fun n => ?_⟩
          rw [hk2 n, List.take_length]
          constructor
          · rintro ((h | ⟨i', ns, h1, h2, h3⟩) | h)
            · exact .inl h
            · exact .inr ⟨i', ns, by omega, h2, h3⟩
            · exact .inr ⟨i, _, by omega, hns, h⟩
          · rintro (h | ⟨i', ns, h1, h2, h3⟩)
            · exact .inl (.inl h)
            · by_cases c : i' = i
              · subst c
                rw [hns] at h2
                cases h2
                exact .inr h3
              · exact .inl (.inr ⟨i', ns, by omega, h2, h3⟩)
      · rintro σ H3 ⟨v4, v5, kvs, rfl, kp3, eD3, lenk3, hk3⟩
        have tk : ∀ n : Int, (valV kvs (Sum.inl n)).isSome = true ↔ M.taken n := fun n => by
          rw [hk3 n, List.length_map, L.ll]
          exact ⟨fun h => h.elim .inl fun ⟨i', ns, _, h2, h3⟩ => .inr ⟨i', ns, h2, h3⟩, fun h => h.elim .inl fun ⟨i', ns, h2, h3⟩ => .inr ⟨i', ns, (List.getElem?_eq_some_iff.mp h2).1, h2, h3⟩⟩
        have L3 := L0 kp3
        have s3 := k0 kp3
        -- for first in range(..)
        refine rd_mt L3 rfl ?_
        refine ⟨_, rfl, _, _, rfl, rfl, _, _, rfl, rfl, 1, _, rfl, ?_⟩
        refine for_range (lo := 1) (n := ((M.top : Int) - m + 2 - 1).toNat) (fun k σ H' => ∃ (v4 v5 v6 v7 : Option V), σ = [some (.ref A.m), some (.int (d : Int)), some (.int m), some (.ref D), v4, v5, v6, v7] ∧ Same H3 H' ∧ ∀ g : Int, g < 1 + (k : Int) → ¬ FitM M m g)
          ⟨_, _, _, _, rfl, Same.refl _, fun g hg h => by have := h.1; omega⟩ ?_ ?_
        · rintro k σ H4 hk ⟨u4, u5, u6, u7, rfl, s4, hno⟩
          have hf : 1 + (k : Int) + m - 1 ≤ (M.top : Int) := by omega
          have t4 := W.t400
          have em : 1 + (k : Int) + m = 1 + (k : Int) + (m.toNat : Int) := by omega
          -- block = list(range(first, first + many))
          refine ⟨_, rfl, _, rfl, _, rfl, _, _, rfl, rfl, _, _, rfl, rfl, RgOk.of_le (by omega) (by omega) (by omega) (by omega), fun q nq => ?_⟩
          rw [em, rgV_blk]
          have s5 := s4.trans (same_upd (o := .lst ((blk (1 + (k : Int)) m.toNat).map V.int)) nq)
          have eq5 : (upd H4 q (.lst ((blk (1 + (k : Int)) m.toNat).map V.int))) q = some (.lst ((blk (1 + (k : Int)) m.toNat).map V.int)) := upd_same
          -- [.. if number in taken] == []
          have eD5 : (upd H4 q (.lst ((blk (1 + (k : Int)) m.toNat).map V.int))) D = some (.dK kvs) := s5 _ _ eD3
          refine ⟨_, rfl, q, rfl, ⟨_, SqL.of eq5⟩, fun D2 nD2 => lc_list (K := K) (a := q) (xs := (blk (1 + (k : Int)) m.toNat).map V.int)
            (fun i H' => Same (upd H4 q (.lst ((blk (1 + (k : Int)) m.toNat).map V.int))) H' ∧ H' D2 = some (.lst ((((blk (1 + (k : Int)) m.toNat).take i).filter fun n => (valV kvs (Sum.inl n : Key)).isSome).map V.int)))
            ⟨same_upd nD2, upd_same⟩ (fun i H' _ ⟨s6, _⟩ => s6.seq (SqL.of eq5)) ?_ ?_⟩
          · rintro i x H6 hx ⟨s6, e6⟩
            obtain ⟨n, hn, rfl⟩ := map_int_at hx
            refine ⟨wipe1 _ _ _, ?_⟩
            refine ⟨_, rfl, _, rfl, D, _, rfl, DGet.k (k := Sum.inl n) (s6 _ _ eD5), _, rfl, ?_⟩
            have lenb : ((((blk (1 + (k : Int)) m.toNat).take i).filter fun n => (valV kvs (Sum.inl n : Key)).isSome).map V.int).length ≤ 400 := by
              have h1 := List.length_filter_le (fun n => (valV kvs (Sum.inl n : Key)).isSome) ((blk (1 + (k : Int)) m.toNat).take i)
              rw [List.length_take, blk_length] at h1
              rw [List.length_map]
              omega
            cases c : (valV kvs (Sum.inl n : Key)).isSome with
            | true =>
              refine iteT ?_
              refine ⟨_, rfl, _, e6, small1000 (by omega), fun b u e => ?_, ?_⟩
              · rw [upd_ne (fun z => by rw [z, nD2] at e; cases e)]
                exact s6 b u e
              · rw [upd_same, take_snoc hn, List.filter_append, List.filter_cons_of_pos (by exact c), List.map_append]
                rfl
            | false =>
              refine iteF ⟨s6, ?_⟩
              rw [take_snoc hn, List.filter_append, List.filter_cons_of_neg (by rw [c]; exact Bool.false_ne_true), List.filter_nil, List.append_nil]
              exact e6
          · rintro H6 ⟨s6, e6⟩
            rw [List.length_map, List.take_length] at e6
            refine ⟨Nat.zero_le _, fun e ne => ?_⟩
            have e7 : (upd H6 e (.lst [])) D2 = some (.lst (((blk (1 + (k : Int)) m.toNat).filter fun n => (valV kvs (Sum.inl n : Key)).isSome).map V.int)) := same_upd ne _ _ e6
            refine eq_nil e7 upd_same (fun x hx => ?_) ⟨_, rfl, ?_⟩
            · obtain ⟨y, _, rfl⟩ := List.mem_map.mp hx
              rfl
            · have s7 : Same H (upd H6 e (.lst [])) := ((s3.trans s5).trans s6).trans (same_upd ne)
              by_cases c : ((blk (1 + (k : Int)) m.toNat).filter fun n => (valV kvs (Sum.inl n : Key)).isSome) = []
              · rw [c]
                refine iteT ?_
                have fit : LeastM M m (1 + (k : Int)) := by
                  refine ⟨⟨by omega, hf, fun n h1 h2 h3 => ?_⟩, hno⟩
                  have hm : n ∈ (blk (1 + (k : Int)) m.toNat).filter fun n => (valV kvs (Sum.inl n : Key)).isSome := List.mem_filter.mpr ⟨mem_blk.mpr ⟨h1, by omega⟩, (tk n).mpr h3⟩
                  rw [c] at hm
                  cases hm
                -- the row grows
                have L7 : Lw (upd H6 e (.lst [])) A M := L.stay fun c' _ u ec => s7 c' u ec
                have hdl : d < A.ys.length := by rw [L.ll]; exact hd
                have hl1 : A.ys[d]? = some A.ys[d] := List.getElem?_eq_getElem hdl
                have hns : M.ly[d]? = some M.ly[d] := List.getElem?_eq_getElem hd
                have hrow := L7.each d _ _ hl1 hns
                have hg : M.ly.getD d [] = M.ly[d] := by rw [List.getD_eq_getElem?_getD, hns]; rfl
                have eq7 : (upd H6 e (.lst [])) q = some (.lst ((blk (1 + (k : Int)) m.toNat).map V.int)) := same_upd ne _ _ (s6 _ _ eq5)
                have lrow := W.len d _ hns
                refine rd_my1 L7 rfl rfl hl1 ⟨_, rfl, _, q, _, _, rfl, rfl, hrow, eq7, Nat.le_of_lt (small1000 (by rw [List.length_map, List.length_map, blk_length]; omega)), fun r nr => ?_⟩
                rw [← List.map_append]
                have L8 := L7.upd_new (o := .lst ((M.ly[d] ++ blk (1 + (k : Int)) m.toNat).map V.int)) nr
                refine rd_myput L8 rfl rfl hdl ?_
                rw [← List.map_set]
                have B := LBeh.newRow (d := d) L7 (Keep.same (F := A.foot) s7) nr hdl (M.ly[d] ++ blk (1 + (k : Int)) m.toNat)
                have qr : q ≠ r := fun z => by rw [z, nr] at eq7; cases eq7
                have qY : q ≠ A.aY := fun z => by have h9 := (s3.trans s4) _ _ L.ly; rw [← z, nq] at h9; cases h9
                have eq8 : (upd (upd (upd H6 e (.lst [])) r (.lst ((M.ly[d] ++ blk (1 + (k : Int)) m.toNat).map V.int))) A.aY (.lst ((A.ys.set d r).map V.ref))) q = some (.lst ((blk (1 + (k : Int)) m.toNat).map V.int)) := by rw [upd_ne qY, upd_ne qr]; exact eq7
                obtain ⟨m', hm'⟩ : ∃ m', m.toNat = m' + 1 := ⟨m.toNat - 1, by omega⟩
                have ebl : (blk (1 + (k : Int)) m.toNat).map V.int = (blk (1 + (k : Int)) m').map V.int ++ [V.int (1 + (k : Int) + m - 1)] := by
                  rw [hm', blk_succ, List.map_append]
                  congr 2
                  show [V.int (1 + (k : Int) + (m' : Int))] = _
                  congr 2
                  omega
                rw [ebl] at eq8
                refine ⟨_, rfl, _, rfl, 1, rfl, q, _, _, _, rfl, rfl, SqL.of eq8, atI_last _ _, (by show 2 ≤ sizeLine; decide), fun t ht => ?_⟩
                have tA := B.lw.new ht
                refine k3 m1 _ fit { A with ys := A.ys.set d r } _ t ?_ ?_ tA upd_same
                · rw [hg]
                  refine ⟨fun c' u ec hc => ?_, B.ff, rfl, B.lw.upd_new ht⟩
                  have h1 := B.kp c' u ec hc
                  rw [upd_ne (fun z => by rw [z] at h1; rw [h1] at ht; cases ht)]
                  exact h1
                · refine B.kp.free ht fun z => ?_
                  obtain ⟨u, hu1⟩ := L7.has t z
                  by_cases c2 : t = A.aY
                  · exact tA (by rw [c2]; exact lfoot_aY _)
                  · rw [upd_ne c2] at ht
                    by_cases c3 : t = r
                    · rw [c3, upd_same] at ht
                      cases ht
                    · rw [upd_ne c3, hu1] at ht
                      cases ht
              · have hne : (((blk (1 + (k : Int)) m.toNat).filter fun n => (valV kvs (Sum.inl n : Key)).isSome).map V.int).isEmpty = false := by
                  cases e0 : ((blk (1 + (k : Int)) m.toNat).filter fun n => (valV kvs (Sum.inl n : Key)).isSome) with
                  | nil => exact absurd e0 c
                  | cons x r => rfl
                rw [hne]
                refine iteF ?_
                refine ⟨_, _, _, _, rfl, (s5.trans s6).trans (same_upd ne), fun g hg h => ?_⟩
                by_cases cg : g < 1 + (k : Int)
                · exact hno g cg h
                · have eg : g = 1 + (k : Int) := by omega
                  subst eg
                  obtain ⟨x, hx⟩ := List.exists_mem_of_ne_nil _ c
                  obtain ⟨hx1, hx2⟩ := List.mem_filter.mp hx
                  have hb := mem_blk.mp hx1
                  exact h.2.2 x hb.1 (by omega) ((tk x).mp hx2)
        · rintro σ H4 ⟨u4, u5, u6, u7, rfl, s4, hno⟩
          refine k2 m1 (fun f h => ?_) H4 (s3.trans s4)
          exact hno f (by have := h.2.1; have := h.1; omega) h
end
end Nu
namespace Nu
open PySem PySem.Spec PyProof.Rows L2
theorem putK_keys {kvs : List (Key × V)} {k : Key} {v : V} (h : (valV kvs k).isSome = true) : (putK kvs k v).map (·.1) = kvs.map (·.1) := by
  unfold putK
  rw [valV_any, if_pos h, List.map_map]
  refine List.map_congr_left fun p _ => ?_
  show (if p.1 = k then (p.1, v) else p).1 = p.1
  by_cases c : p.1 = k
  · rw [if_pos c]
  · rw [if_neg c]
def Lm.put (M : Lm) (n : Int) (z : Str) : Lm := { M with wd := fun m => if m = n then some z else M.wd m }
def Lm.puts (M : Lm) (l : List (Int × Str)) : Lm := l.foldl (fun M p => M.put p.1 p.2) M
theorem puts_snoc (M : Lm) (l : List (Int × Str)) (n : Int) (z : Str) : M.puts (l ++ [(n, z)]) = (M.puts l).put n z := by
  unfold Lm.puts
  rw [List.foldl_append]
  rfl
theorem puts_rest (l : List (Int × Str)) : ∀ M : Lm, (M.puts l).top = M.top ∧ (M.puts l).sn = M.sn ∧ (M.puts l).ly = M.ly ∧ (M.puts l).go = M.go ∧ (M.puts l).lo = M.lo := by
  induction l with
  | nil => intro M; exact ⟨rfl, rfl, rfl, rfl, rfl⟩
  | cons p r ih => intro M; exact ih (M.put p.1 p.2)
theorem puts_out (l : List (Int × Str)) : ∀ (M : Lm) (n : Int), n ∉ l.map (·.1) → (M.puts l).wd n = M.wd n := by
  induction l with
  | nil => intro M n _; rfl
  | cons p r ih =>
    intro M n h
    simp only [List.map_cons, List.mem_cons, not_or] at h
    show ((M.put p.1 p.2).puts r).wd n = _
    rw [ih _ n h.2]
    show (if n = p.1 then some p.2 else M.wd n) = _
    rw [if_neg h.1]
theorem puts_in (l : List (Int × Str)) : ∀ (M : Lm) (n : Int) (z : Str), (l.map (·.1)).Nodup → (n, z) ∈ l → (M.puts l).wd n = some z := by
  induction l with
  | nil => intro M n z _ h; cases h
  | cons p r ih =>
    intro M n z nd h
    obtain ⟨h1, h2⟩ := List.nodup_cons.mp nd
    show ((M.put p.1 p.2).puts r).wd n = some z
    rcases List.mem_cons.mp h with e | e
    · subst e
      rw [puts_out r _ n h1]
      show (if n = n then some z else _) = some z
      rw [if_pos rfl]
    · exact ih _ n z h2 e
theorem WdK.put {kvs : List (Key × V)} {M : Lm} (h : WdK kvs M) {n : Int} (z : Str) (hn : 1 ≤ n ∧ n ≤ (M.top : Int)) : WdK (putK kvs (Sum.inl n) (.str z)) (M.put n z) := by
  have at2 : ∀ m : Int, valV (putK kvs (Sum.inl n) (.str z)) (Sum.inl m) = ((M.put n z).wd m).map V.str := fun m => by
    rw [valV_put]
    show _ = (if m = n then some z else M.wd m).map V.str
    by_cases c : m = n
    · rw [if_pos (by rw [c]), if_pos c]
      rfl
    · rw [if_neg (fun q => c (Sum.inl.inj q)), if_neg c]
      exact h.at_ m
  cases e : valV kvs (Sum.inl n : Key) with
  | none =>
    refine ⟨nd_putK _ h.nd e, fun k hk => ?_, at2⟩
    rw [putK_new _ e, List.map_append] at hk
    rcases List.mem_append.mp hk with q | q
    · exact h.rg k q
    · have q : k = Sum.inl n := by simpa using q
      exact ⟨n, q, hn.1, hn.2⟩
  | some v =>
    have ek := putK_keys (v := V.str z) (show (valV kvs (Sum.inl n : Key)).isSome = true by rw [e]; rfl)
    exact ⟨by rw [ek]; exact h.nd, fun k hk => h.rg k (by rw [ek] at hk; exact hk), at2⟩
def Lm.report (M : Lm) (d : Nat) (ws : List Str) : Lm := { M.puts (((M.ly.getD d []).take ws.length).zip ws) with ly := M.ly.set d ((M.ly.getD d []).drop ws.length) }
def Lm.back (M : Lm) (d : Nat) : Lm := { M with ly := M.ly.set d [] }
def Lm.lend (M : Lm) (d : Nat) (f : Int) (k : Nat) : Lm := { M with ly := M.ly.set d ((M.ly.getD d []) ++ blk f k) }
theorem inV_words (x : Str) : inV (V.str x) [V.str "paper", V.str "spoilt"] = (decide (x = "paper") || decide (x = "spoilt")) := by
  show (eqV (V.str "paper") (V.str x) || (eqV (V.str "spoilt") (V.str x) || false)) = _
  have e : ∀ y : Str, eqV (V.str y) (V.str x) = decide (x = y) := fun y => by
    show (y == x) = decide (x = y)
    by_cases c : x = y
    · rw [decide_eq_true c, c]
      exact beq_self_eq_true y
    · rw [decide_eq_false c]
      exact beq_eq_false_iff_ne.mpr (Ne.symm c)
  rw [e, e, Bool.or_false]
def badW (x : Str) : Bool := !(decide (x = "paper") || decide (x = "spoilt"))
/-- rows in range -/
def Rng (M : Lm) : Prop := ∀ (d : Nat) (ns : List Int), M.ly[d]? = some ns → ∀ n ∈ ns, 1 ≤ n ∧ n ≤ (M.top : Int)
section
variable {P : Program} {w : World} {K : PySem.W.Frag} {mg : Str → Option Value} {base : Heap} {a : Ad} {fd : Fd}
def spLReported : Sp := fun vs H Q _ => ∃ (A : La) (M : Lm) (d : Nat) (aw : Addr) (ws : List Str), vs = [.ref A.m, .int (d : Int), .ref aw] ∧ Lw H A M ∧ WfM M ∧ Rng M ∧ d < M.ly.length ∧ H aw = some (.lst (ws.map V.str)) ∧ aw ∉ A.foot ∧ (∀ x ∈ ws, flS (.str x) = true) ∧ ws.length ≤ 1000 ∧
  (¬ Words ws → ∀ H', Same H H' → Q (.str "NoWord") H') ∧ (Words ws → (M.ly.getD d []).length < ws.length → ∀ H', Same H H' → Q (.str "Short") H') ∧
  (Words ws → ws.length ≤ (M.ly.getD d []).length → ∀ A' H' r, LBeh H H' A A' (M.report d ws) → H r = none → r ∉ A'.foot → H' r = some (.lst (((M.ly.getD d []).take ws.length).map V.int)) → Q (.ref r) H')
theorem ok_l_reported (T : Txt K mg a fd) : FnOk P w K mg base CX0 1 a.l_reported fd.l_reported ["_law_m", "_law_desk", "_law_words_here"] spLReported := by
  refine T.F_l_reported.ok sc_l_reported (fun vs H Q E h => ?_) (fun cdv A0 outer s H vs Q E hr h => ?_)
  · obtain ⟨A, M, d, aw, ws, rfl, _⟩ := h
    rfl
  · obtain ⟨A, M, d, aw, ws, rfl, L, W, R, hd, hw, hwA, hok, hlen, k1, k2, k3⟩ := h
    have hu := hu_of hr
    refine ⟨_, (pss_cons (ps_if (pt_cmpR (op_neD hr.units) (pe_lc (own := [("_law_word", 3)]) (g := gName 3) (by rfl) sc_l_reported.nd (pi_list (pv 2)) (blkOk_by (own := [("_law_word", 3)]) (N := ["_law_m", "_law_desk", "_law_words_here", "_law_word", "_law_row", "_law_k"]) (sc := defScope s_l_reported) (by decide +kernel)) (fun _ _ _ _ _ => pg_name (i := 3) sc_l_reported.nd rfl (Or.inl rfl)) (fun _ _ _ _ _ => (pts_one (pt_cmpR (notInSeq_K (K := K) rfl) (pv 3) (pe_lst (pa_cons pe_str (pa_cons pe_str pa_nil))) (by rfl)))) (fun _ _ _ _ _ => (pv 3))) (pe_lst pa_nil) (nomark _)) (pss_one (ps_ret pe_str)) pss_nil)
    (pss_cons (ps_set (i := 4) sc_l_reported.nd rfl (Or.inl rfl) (pe_ix ix_list (pe_dget hu (pv 0) pe_str (fun _ _ => rfl)) (pv 1) (fun _ _ => rfl)))
    (pss_cons (ps_if (pt_cmpR op_gt (pe_callB call_len_seq (by rfl) T.n_len PySem.boot_len (pa_cons (pv 2) pa_nil)) (pe_callB call_len_seq (by rfl) T.n_len PySem.boot_len (pa_cons (pv 4) pa_nil)) (nomark _)) (pss_one (ps_ret pe_str)) pss_nil)
    (pss_cons (ps_for PassesOwn.never rfl (pi_range1 (by rfl) T.n_range (pa_cons (pe_callB call_len_seq (by rfl) T.n_len PySem.boot_len (pa_cons (pv 2) pa_nil)) pa_nil)) (pg_name (i := 5) sc_l_reported.nd rfl (Or.inl rfl))
      (pss_one (ps_dput hu (pe_dget hu (pv 0) pe_str (fun _ _ => rfl)) (pe_ix ix_list (pv 4) (pv 5) (fun _ _ => rfl)) (pe_ix ix_list (pv 2) (pv 5) (fun _ _ => rfl)) rfl)))
    (pss_cons (ps_asg (pe_slice sl_list (pv 4) (po_some (pe_callB call_len_seq (by rfl) T.n_len PySem.boot_len (pa_cons (pv 2) pa_nil))) po_none) (pg_sub (pe_dget hu (pv 0) pe_str (fun _ _ => rfl)) (pv 1) set_list))
    (pss_one (ps_ret (pe_slice sl_list (pv 4) po_none (po_some (pe_callB call_len_seq (by rfl) T.n_len PySem.boot_len (pa_cons (pv 2) pa_nil))))))))))), ?_⟩
    -- [.. not in ['paper', 'spoilt']] != []
    refine ⟨_, rfl, aw, rfl, ⟨_, SqL.of hw⟩, fun D nD => lc_list (K := K) (a := aw) (xs := ws.map V.str)
      (fun i H' => Same H H' ∧ H' D = some (.lst (((ws.take i).filter badW).map V.str)))
      ⟨same_upd nD, upd_same⟩ (fun i H' _ ⟨s1, _⟩ => s1.seq (SqL.of hw)) ?_ ?_⟩
    · rintro i x H1 hx ⟨s1, e1⟩
      obtain ⟨y, hy, rfl⟩ : ∃ y, ws[i]? = some y ∧ x = V.str y := by
        rw [List.getElem?_map] at hx
        cases e : ws[i]? with
        | none => rw [e] at hx; cases hx
        | some y => rw [e] at hx; exact ⟨y, rfl, (Option.some.inj hx).symm⟩
      refine ⟨wipe1 _ _ _, ?_⟩
      refine ⟨_, rfl, (by show 2 ≤ sizeLine; decide), fun e ne => ⟨e, _, rfl, .inl (SqL.of upd_same), rfl, rfl, _, rfl, ?_⟩⟩
      have eD : D ≠ e := fun z => by rw [← z, e1] at ne; cases ne
      have lenb : (((ws.take i).filter badW).map V.str).length ≤ 1000 := by
        have h1 := List.length_filter_le badW (ws.take i)
        rw [List.length_take] at h1
        rw [List.length_map]
        omega
      rw [if_pos rfl, inV_words]
      have hbw : (!(decide (y = "paper") || decide (y = "spoilt"))) = badW y := rfl
      rw [hbw]
      cases c : badW y with
      | true =>
        refine iteT ?_
        refine ⟨_, rfl, _, by rw [upd_ne eD]; exact e1, small1000 lenb, fun b u eb => ?_, ?_⟩
        · rw [upd_ne (fun z => by rw [z, nD] at eb; cases eb), upd_ne (fun z => by have h9 := s1 b u eb; rw [z, ne] at h9; cases h9)]
          exact s1 b u eb
        · rw [upd_same, take_snoc hy, List.filter_append, List.filter_cons_of_pos (by exact c), List.map_append]
          rfl
      | false =>
        refine iteF ⟨s1.trans (same_upd ne), ?_⟩
        rw [take_snoc hy, List.filter_append, List.filter_cons_of_neg (by rw [c]; exact Bool.false_ne_true), List.filter_nil, List.append_nil, upd_ne eD]
        exact e1
    · rintro H1 ⟨s1, e1⟩
      rw [List.length_map, List.take_length] at e1
      refine ⟨Nat.zero_le _, fun e ne => ?_⟩
      have e2 := same_upd (o := .lst []) ne _ _ e1
      have s2 := s1.trans (same_upd (o := .lst []) ne)
      refine ne_nil e2 upd_same (fun x hx => ?_) ⟨_, rfl, ?_⟩
      · obtain ⟨y, hy, rfl⟩ := List.mem_map.mp hx
        exact hok y (List.mem_filter.mp hy).1
      · by_cases cw : Words ws
        · have ef : (ws.filter badW) = [] := by
            refine List.filter_eq_nil_iff.mpr fun x hx => ?_
            rcases cw x hx with z | z
            · unfold badW; rw [decide_eq_true z]; simp
            · unfold badW; rw [decide_eq_true z]; simp
          rw [ef]
          refine iteF ?_
          have L2 : Lw (upd H1 e (.lst [])) A M := L.stay fun c _ u ec => s2 c u ec
          have hdl : d < A.ys.length := by rw [L.ll]; exact hd
          have hl1 : A.ys[d]? = some A.ys[d] := List.getElem?_eq_getElem hdl
          have hns : M.ly[d]? = some M.ly[d] := List.getElem?_eq_getElem hd
          have hrow := L2.each d _ _ hl1 hns
          have hg : M.ly.getD d [] = M.ly[d] := by rw [List.getD_eq_getElem?_getD, hns]; rfl
          have hw2 := s2 _ _ hw
          rw [hg] at k2 k3
          refine rd_my1 L2 rfl rfl hl1 ?_
          refine ⟨_, rfl, aw, _, rfl, .inl (SqL.of hw2), _, rfl, _, _, rfl, .inl (SqL.of hrow), _, _, rfl, rfl, _, rfl, ?_⟩
          rw [List.length_map, List.length_map]
          by_cases c1 : ((M.ly[d].length : Nat) : Int) < (ws.length : Int)
          · rw [decide_eq_true c1]
            exact iteT (k2 cw (by omega) _ s2)
          · rw [decide_eq_false c1]
            refine iteF ?_
            have hle : ws.length ≤ M.ly[d].length := by omega
            have lt : (M.ly[d].take ws.length).length = ws.length := by rw [List.length_take]; omega
            -- the words
            refine ⟨_, rfl, aw, _, rfl, .inl (SqL.of hw2), _, rfl, by omega, by rw [List.length_map]; omega, ?_⟩
            refine for_range (lo := 0) (n := (((ws.map V.str).length : Nat) : Int).toNat) (fun j σ H' => ∃ v : Option V, σ = [some (.ref A.m), some (.int (d : Int)), some (.ref aw), none, some (.ref A.ys[d]), v] ∧ Keep A.foot (upd H1 e (.lst [])) H' ∧ Lw H' A (M.puts (((M.ly[d].take ws.length).zip ws).take j)))
              ⟨none, rfl, Keep.refl _ _, L2⟩ ?_ ?_
            · rintro j σ H3 hj ⟨v, rfl, kp, L3⟩
              have hj : j < ws.length := by rw [List.length_map] at hj; omega
              have e0 : (0 : Int) + (j : Int) = (j : Int) := by omega
              have pr := puts_rest (((M.ly[d].take ws.length).zip ws).take j) M
              have hw3 := kp _ _ hw2 hwA
              have hrow3 := L3.each d _ _ hl1 (by rw [pr.2.2.1]; exact hns)
              have hjr : M.ly[d][j]? = some (M.ly[d][j]'(by omega)) := List.getElem?_eq_getElem _
              have hjw : ws[j]? = some ws[j] := List.getElem?_eq_getElem hj
              have hz : ((M.ly[d].take ws.length).zip ws)[j]? = some (M.ly[d][j]'(by omega), ws[j]) := List.getElem?_zip_eq_some.mpr ⟨by rw [List.getElem?_take, if_pos hj]; exact hjr, hjw⟩
              obtain ⟨kw, ew, qw⟩ := L3.wd
              have hb := R d _ hns _ (List.mem_of_getElem? hjr)
              have lw400 : kw.length ≤ 400 := Nat.le_trans (keys_le qw.nd qw.rg) (by rw [pr.1]; exact W.t400)
              refine ⟨_, rfl, _, rfl, aw, _, _, _, rfl, rfl, SqL.of hw3, (by rw [e0]; exact atI_nat (by rw [List.getElem?_map, hjw]; rfl)), ?_⟩
              refine rd_mw L3 rfl ?_
              refine ⟨_, rfl, _, rfl, A.ys[d], _, _, _, rfl, rfl, SqL.of hrow3, (by rw [e0]; exact atI_nat (by rw [List.getElem?_map, hjr]; rfl)), ?_⟩
              refine ⟨A.dW, _, rfl, DPut.k (k := Sum.inl (M.ly[d][j]'(by omega))) ew (small1000 (by omega)), ?_⟩
              refine ⟨_, rfl, kp.trans (keep_upd (.inl (lfoot_dW A))), ?_⟩
              rw [take_snoc hz, puts_snoc]
              exact L3.setW _ (qw.put ws[j] (by rw [pr.1]; exact hb))
            · rintro σ H3 ⟨v, rfl, kp, L3⟩
              have ez : ((M.ly[d].take ws.length).zip ws).take (((ws.map V.str).length : Nat) : Int).toNat = (M.ly[d].take ws.length).zip ws := List.take_of_length_le (by rw [List.length_map, List.length_zip]; omega)
              rw [ez] at L3
              have pr := puts_rest ((M.ly[d].take ws.length).zip ws) M
              have hw3 := kp _ _ hw2 hwA
              have hrow3 := L3.each d _ _ hl1 (by rw [pr.2.2.1]; exact hns)
              have lw : (ws.map V.str).length = ws.length := List.length_map _
              refine ⟨_, rfl, _, rfl, aw, _, rfl, .inl (SqL.of hw3), _, rfl, _, _, rfl, SqL.of hrow3, fun r nr => ?_⟩
              have ec2 : cutV (M.ly[d].map V.int) (some (((ws.map V.str).length : Nat) : Int)) none = (M.ly[d].drop ws.length).map V.int := by
                rw [cut_from _ _ (by rw [lw, List.length_map]; exact hle), lw, List.map_drop]
              rw [ec2]
              refine rd_myput (L3.upd_new nr) rfl rfl hdl ?_
              rw [← List.map_set]
              have B := LBeh.newRow (d := d) L3 ((Keep.same s2).trans kp) nr hdl (M.ly[d].drop ws.length)
              have rr : A.ys[d] ≠ r := fun z => by rw [z, nr] at hrow3; cases hrow3
              have rY : A.ys[d] ≠ A.aY := fun z => L.ne.aY_ys (by rw [← z]; exact List.mem_of_getElem? hl1)
              have awr : aw ≠ r := fun z => by rw [z, nr] at hw3; cases hw3
              have awY : aw ≠ A.aY := fun z => hwA (by rw [z]; exact lfoot_aY A)
              have hrow4 : (upd (upd H3 r (.lst ((M.ly[d].drop ws.length).map V.int))) A.aY (.lst ((A.ys.set d r).map V.ref))) A.ys[d] = some (.lst (M.ly[d].map V.int)) := by rw [upd_ne rY, upd_ne rr]; exact hrow3
              have hw4 : (upd (upd H3 r (.lst ((M.ly[d].drop ws.length).map V.int))) A.aY (.lst ((A.ys.set d r).map V.ref))) aw = some (.lst (ws.map V.str)) := by rw [upd_ne awY, upd_ne awr]; exact hw3
              refine ⟨_, rfl, _, rfl, aw, _, rfl, .inl (SqL.of hw4), _, rfl, _, _, rfl, SqL.of hrow4, fun t ht => ?_⟩
              have ec : cutV (M.ly[d].map V.int) none (some (((ws.map V.str).length : Nat) : Int)) = (M.ly[d].take ws.length).map V.int := by
                rw [cut_to, lw, List.map_take]
              rw [ec]
              have tA := B.lw.new ht
              have eo : M.report d ws = { (M.puts ((M.ly[d].take ws.length).zip ws)) with ly := (M.puts ((M.ly[d].take ws.length).zip ws)).ly.set d (M.ly[d].drop ws.length) } := by
                unfold Lm.report
                rw [hg, pr.2.2.1]
              refine k3 cw hle { A with ys := A.ys.set d r } _ t ?_ ?_ tA upd_same
              · rw [eo]
                refine ⟨fun c' u ec' hc => ?_, B.ff, rfl, B.lw.upd_new ht⟩
                have h1 := B.kp c' u ec' hc
                rw [upd_ne (fun z => by rw [z] at h1; rw [h1] at ht; cases ht)]
                exact h1
              · refine B.kp.free ht fun z => ?_
                obtain ⟨u, hu1⟩ := L3.has t z
                by_cases c2 : t = A.aY
                · exact tA (by rw [c2]; exact lfoot_aY _)
                · rw [upd_ne c2] at ht
                  by_cases c3 : t = r
                  · rw [c3, upd_same] at ht
                    cases ht
                  · rw [upd_ne c3, hu1] at ht
                    cases ht
        · have hne : ((ws.filter badW).map V.str).isEmpty = false := by
            cases e0 : (ws.filter badW) with
            | nil =>
              refine absurd (fun x hx => ?_) cw
              have := List.filter_eq_nil_iff.mp e0 x hx
              by_cases c : x = "paper"
              · exact .inl c
              · refine .inr ?_
                simp [badW, decide_eq_true_eq, c] at this
                exact this
            | cons x r => rfl
          rw [hne]
          exact iteT (k1 cw _ s2)
end
end Nu
namespace Nu
open PySem PySem.Spec PyProof.Rows L2
/-! ### rules: list.count of flat things; isinstance in a suite -/
theorem countP_V {y : V} : ∀ {xs : List V} {us : List Value}, Vals xs us → xs.all flatV = true → us.countP (eqU y) = xs.countP fun z => eqV z y
  | _, _, .nil, _ => rfl
  | x :: xs, u :: us, .cons r t, f => by
    rw [List.all_cons, Bool.and_eq_true] at f
    rw [List.countP_cons, List.countP_cons, countP_V t f.2, eqU_of r f.1]
def rCntF (K : PySem.W.Frag) : V → List V → Hp → VK → Prop := fun x xs H Q => ∃ (p : Addr) (ys : List V) (y : V), x = .ref p ∧ xs = [y] ∧ SqL K H p ys ∧ flatV y = true ∧ ys.all flatV = true ∧ Q (.int ((ys.countP fun z => eqV z y : Nat) : Int)) H
theorem mt_countF {X : Cx} {K : PySem.W.Frag} (hK : X.K = K := by rfl) : MtR X "list.count" (rCntF K) := by
  subst hK
  intro pins s σ H x xs v us Q I rx rxs h
  obtain ⟨p, ys, y, ex, exs, hs, fy, fys, q⟩ := h
  subst ex exs
  cases (show v = Value.ref p from rx)
  obtain ⟨u, rfl, ru⟩ := rxs.one
  obtain ⟨its, rv, ⟨⟨cls, dd, data, sl⟩, n, ho, hc, hdn, hd⟩, hlen⟩ := I.list hs
  simp only at hc hd
  subst hc hd
  refine call_meets PySem.F.slot_list_count ⟨_, ho, rfl⟩ PySem.F.entry_list_count (PySem.F.args_list_count_2 _ _) (SeqAt.list_countAt p its.toArray n dd sl u (eqU y))
    ⟨ho, fun u' hu' => mem_eqAt ru fy rv fys u' (by simpa using hu'), ?_⟩
  have ec : its.toArray.toList.countP (eqU y) = ys.countP fun z => eqV z y := countP_V rv fys
  rw [ec]
  exact ⟨.int _, H, I.tok _, ⟨_, rfl⟩, q⟩
theorem mt_indexK {X : Cx} {K : PySem.W.Frag} (hK : X.K = K) : MtR X "list.index" (rIndex K) := hK ▸ mt_index
section
variable {X : Cx} {K : PySem.W.Frag} {o e : Expr} {es : List Expr} {name T : Str}
def rIsG (K : PySem.W.Frag) (a : Addr) (cls : Value) (d : Option Addr) : List V → Hp → VK → Prop := fun xs H Q => ∃ D, cls = .ref D ∧ d = none ∧ ExcC K D ∧ rIsE K D a xs H Q
theorem call_isG {a : Addr} {cls : Value} {d : Option Addr} {oe : Obj} {pn : List (Addr × Obj)} (hz : Zc cls d oe) (hf : ∃ vs, oe.data = .fields vs) (hK : X.K = K := by rfl) : CallR (X.suite a ((a, oe) :: pn)) (.builtin "isinstance") (rIsG K a cls d) := by
  subst hK
  intro pins s σ H xs us Q I r h
  obtain ⟨D, e1, e2, C, h⟩ := h
  subst e1 e2
  exact call_isE C hz hf pins s σ H xs us Q I r h
/-- isinstance(e, (A, B, ..)) -/
def rIsGT (K : PySem.W.Frag) (a : Addr) (cls : Value) (d : Option Addr) : List V → Hp → VK → Prop := fun xs H Q => ∃ (D tp : Addr) (cs : List V) (us : List Value) (b : Bool), cls = .ref D ∧ d = none ∧ ExcC K D ∧ xs = [.ref a, .ref tp] ∧ H tp = some (.tup cs) ∧ Paired ClsV cs us ∧ PySem.W.kitAny K (.ref D) us = some b ∧ Q (.bl b) H
theorem call_isGT {a : Addr} {cls : Value} {d : Option Addr} {oe : Obj} {pn : List (Addr × Obj)} (hz : Zc cls d oe) (hf : ∃ vs, oe.data = .fields vs) (hK : X.K = K := by rfl) : CallR (X.suite a ((a, oe) :: pn)) (.builtin "isinstance") (rIsGT K a cls d) := by
  subst hK
  intro pins s σ H xs us Q I r h
  obtain ⟨D, tp, cs, ws, b, e1, e2, C, e3, hT, k, ea, q⟩ := h
  subst e1 e2 e3
  obtain ⟨u1, u2, rfl, r1, r2⟩ := vals2 r
  cases (show u1 = Value.ref a from r1)
  cases (show u2 = Value.ref tp from r2)
  obtain ⟨hget, _⟩ := I.pin (a, oe) (List.mem_append.mpr (.inl List.mem_cons_self))
  obtain ⟨vs, hv⟩ := hf
  have J : PySem.W.InstAt s.heap a oe D none := by
    obtain ⟨oc, od, oda, osl⟩ := oe
    obtain ⟨h1, h2⟩ := hz
    dsimp only at h1 h2 hv
    subst h1 h2 hv
    exact ⟨hget, rfl, rfl, trivial⟩
  obtain ⟨_, its, rv, ob, g1, g2, n, g3⟩ := (show ObjOk X.prog X.w H s.heap tp (.tup cs) from I.hok tp _ hT)
  have e3 := ClsV.all k rv
  subst e3
  obtain ⟨oc, od, dt, sl⟩ := ob
  simp only at g2 g3
  subst g2 g3
  exact PySem.W.kia_tup (PySem.W.handS_kitx_exc C.hg C.hk C.hs C.hd C.ha C.hn C.ht C.hm) I.kIn J g1 ea (fun z => nomatch z) fun tk => ⟨.bl b, H, I.kept (t' := tk) fun _ _ z => z, rfl, q⟩
end
section
variable {X : Cx} {K : PySem.W.Frag} {o e : Expr} {es : List Expr} {to : TE} {t : TA} {name : Str} {apos cpos : Pos} {T id : String} {r : V → List V → Hp → VK → Prop}
theorem pe_bmK (hK : X.K = K) (pa : PlainAttrs T) (slot : Slot T name id) (hty : typeOf (.builtin id) = pure (.type "method_descriptor")) (hm : MtR X id r) (ho : PE X o to) (ha : PA X (e :: es) t)
    (h1 : attributeBase o name X.env (eval o X.env) = eval o X.env := by rfl)
    (h2 : (((backTo cpos (starEach (e :: es) X.env)).all fun x => !x.fst) && (backToKw cpos (keywordEach [] X.env)).all (fun x => x.fst.isSome) && decide (((e :: es).length + ([] : List Keyword).length + if ([] : List Keyword).isEmpty = true then 0 else 1) < 30)) = true := by rfl)
    (h3 : (apos.endLine == cpos.line) = true := by rfl) (h4 : starEach (e :: es) X.env = (false, eval e X.env) :: starEach es X.env := by rfl) (h5 : ((backTo cpos (starEach es X.env)).any fun x => x.fst) = false := by rfl) :
    PE X (.Call (.Attribute o name apos) (e :: es) [] cpos) (tBM K T r to t) := hK ▸ pe_bm pa slot hty hm ho ha h1 h2 h3 h4 h5
end
end Nu
namespace Nu
open PySem PySem.Spec PyProof.Rows L2
theorem log_nat {d : Nat} (h : d ≤ 1000) : (d : Int).natAbs.log2 < 1920 := by
  have e : (d : Int).natAbs = d := Int.natAbs_natCast d
  rw [e]
  have h1 : d.log2 < 10 := by
    by_cases c : d = 0
    · subst c
      decide
    · exact (Nat.log2_lt c).mpr (by omega)
  omega
/-- numbers of a rest put down as used -/
def Of.useS (o : Of) (ms : List Int) : Of := { o with st := fun n => if n ∈ ms ∧ o.st n = "rest" then "used" else o.st n }
theorem useS_nil (o : Of) : o.useS [] = o := by
  refine of_eq rfl (funext fun n => ?_) rfl rfl rfl
  show (if n ∈ ([] : List Int) ∧ o.st n = "rest" then ("used" : Str) else o.st n) = o.st n
  rw [if_neg fun z => by cases z.1]
theorem not_used_rest : ¬ (("used" : Str) = "rest") := by decide +kernel
theorem useS_put (o : Of) (ms : List Int) (n : Int) (h : (o.useS ms).st n = "rest") : { (o.useS ms) with st := fun m => if m = n then "used" else (o.useS ms).st m } = o.useS (ms ++ [n]) := by
  have hn : o.st n = "rest" := by
    have h : (if n ∈ ms ∧ o.st n = "rest" then ("used" : Str) else o.st n) = "rest" := h
    by_cases c : n ∈ ms ∧ o.st n = "rest"
    · exact c.2
    · rw [if_neg c] at h
      exact h
  refine of_eq rfl (funext fun m => ?_) rfl rfl rfl
  show (if m = n then ("used" : Str) else if m ∈ ms ∧ o.st m = "rest" then "used" else o.st m) = if m ∈ ms ++ [n] ∧ o.st m = "rest" then ("used" : Str) else o.st m
  by_cases c : m = n
  · subst c
    rw [if_pos rfl, if_pos ⟨List.mem_append_right _ (List.mem_singleton.mpr rfl), hn⟩]
  · rw [if_neg c]
    by_cases c2 : m ∈ ms ∧ o.st m = "rest"
    · rw [if_pos c2, if_pos ⟨List.mem_append_left _ c2.1, c2.2⟩]
    · rw [if_neg c2, if_neg fun z => c2 ⟨(List.mem_append.mp z.1).resolve_right fun q => c (List.mem_singleton.mp q), z.2⟩]
theorem useS_skip (o : Of) (ms : List Int) (n : Int) (h : ¬ (o.useS ms).st n = "rest") : o.useS ms = o.useS (ms ++ [n]) := by
  refine of_eq rfl (funext fun m => ?_) rfl rfl rfl
  show (if m ∈ ms ∧ o.st m = "rest" then ("used" : Str) else o.st m) = if m ∈ ms ++ [n] ∧ o.st m = "rest" then ("used" : Str) else o.st m
  by_cases c2 : m ∈ ms ∧ o.st m = "rest"
  · rw [if_pos c2, if_pos ⟨List.mem_append_left _ c2.1, c2.2⟩]
  · rw [if_neg c2]
    by_cases c3 : m ∈ ms ++ [n] ∧ o.st m = "rest"
    · have e : m = n := by
        rcases List.mem_append.mp c3.1 with q | q
        · exact absurd ⟨q, c3.2⟩ c2
        · exact List.mem_singleton.mp q
      subst e
      refine absurd ?_ h
      show (if m ∈ ms ∧ o.st m = "rest" then ("used" : Str) else o.st m) = "rest"
      rw [if_neg c2]
      exact c3.2
    · rw [if_neg c3]
def Of.stop (o : Of) (d : Nat) : Of := { o with sg := o.sg.set d "stopped", st := fun n => if n ∈ o.le.getD d [] then "rest" else o.st n }
section
variable {P : Program} {w : World} {K : PySem.W.Frag} {mg : Str → Option Value} {base : Heap} {a : Ad} {fd : Fd}
/-- self._stages[desk] = value -/
theorem rd_putSg {H : Hp} {F : Fp} {o : Of} {σ : L2.St} {i j d : Nat} {v : V} {Q : L2.St → Hp → Prop} (T : Txt K mg a fd) (O : Off a H F o) (h0 : σ[i]? = some (some (.ref F.p))) (h1 : σ[j]? = some (some (.int (d : Int)))) (hd : d < o.sg.length)
    (h : Q σ (upd H F.aS (.lst ((o.sg.map V.str).set d v)))) : gSub (tFld K (tVar i) "_stages") (tVar j) rSetL v σ H Q :=
  ⟨_, h0, F.p, a.C, F.dx, _, _, rfl, O.ob, T.cl, T.na_stages, ofl_stages F, _, h1, F.aS, _, _, d, rfl, rfl, O.sg, ixN_nat (by rw [List.length_map]; exact hd), h⟩
/-- self._states[number] = a text -/
theorem rd_putSt {H : Hp} {F : Fp} {o : Of} {σ : L2.St} {i j : Nat} {n : Int} {z : Str} {D : Ends} (T : Txt K mg a fd) (O : Off a H F o) (h400 : o.top ≤ 400) (h0 : σ[i]? = some (some (.ref F.p))) (h1 : σ[j]? = some (some (.int n))) (hn : 1 ≤ n ∧ n ≤ (o.top : Int))
    (h : D.nx σ (upd H F.dS (.dK (stK o.top fun m => if m = n then z else o.st m)))) : sDPut (tFld K (tVar i) "_states") (tVar j) (tC (.str z)) D σ H := by
  refine ⟨_, h0, F.p, a.C, F.dx, _, _, rfl, O.ob, T.cl, T.na_states, ofl_states F, ?_⟩
  refine ⟨_, h1, F.dS, _, rfl, DPut.k (k := Sum.inl n) O.st (small1000 (by rw [stK_length]; omega)), ?_⟩
  rw [putK_stK _ _ _ _ hn]
  exact h
def spUse (a : Ad) : Sp := fun vs H Q _ => ∃ (F : Fp) (o : Of) (q : Addr) (ms : List Int), vs = [.ref F.p, .ref q] ∧ Off a H F o ∧ o.top ≤ 400 ∧ H q = some (.lst (ms.map V.int)) ∧ q ∉ F.foot ∧ (∀ n ∈ ms, 1 ≤ n ∧ n ≤ (o.top : Int)) ∧ ∀ H', Keep F.foot H H' → Off a H' F (o.useS ms) → Q .non H'
theorem ok_Office__use (T : Txt K mg a fd) : FnOk P w K mg base CX0 1 a.Office__use fd.Office__use ["self", "numbers"] (spUse a) := by
  refine T.F_Office__use.ok sc_Office__use (fun vs H Q E h => ?_) (fun cdv A outer s H vs Q E hr h => ?_)
  · obtain ⟨F, o, q, ms, rfl, _⟩ := h
    rfl
  · obtain ⟨F, o, q, ms, rfl, O, h400, hq, hqF, hms, k⟩ := h
    have hu := hu_of hr
    refine ⟨_, (pss_one (ps_for PassesOwn.never rfl (pi_list (pv 1)) (pg_name (i := 2) sc_Office__use.nd rfl (Or.inl rfl))
      (pss_one (ps_if (pt_cmpR op_eq (pe_dget hu (pe_fld (pv 0) rfl) (pv 2) (fun _ _ => rfl)) (pe_gs (by rfl) T.g_REST) (nomark _)) (pss_one (ps_dput hu (pe_fld (pv 0) rfl) (pv 2) (pe_gs (by rfl) T.g_USED) rfl)) pss_nil)))), ?_⟩
    refine ⟨_, rfl, q, rfl, ⟨_, SqL.of hq⟩, for_list (K := K) (a := q) (xs := ms.map V.int) (fun j σ H' => ∃ v : Option V, σ = [some (.ref F.p), some (.ref q), v] ∧ Keep F.foot H H' ∧ Off a H' F (o.useS (ms.take j)))
      ⟨none, rfl, Keep.refl _ _, by rw [List.take_zero, useS_nil]; exact O⟩ (fun j σ H' _ ⟨_, _, kk, _⟩ => SqL.of (kk _ _ hq hqF)) ?_ ?_⟩
    · rintro j x σ H' hj ⟨v, rfl, kk, O1⟩
      obtain ⟨n, hn, rfl⟩ := map_int_at hj
      have b := hms n (List.mem_of_getElem? hn)
      refine rd_state T O1 rfl rfl b ?_
      refine ⟨rfl, _, rfl, ?_⟩
      by_cases c : (o.useS (ms.take j)).st n = "rest"
      · rw [deqT c]
        refine iteT ?_
        refine rd_putSt T O1 h400 rfl rfl b ?_
        refine ⟨_, rfl, kk.trans (keep_upd (.inl (foot_dS F))), ?_⟩
        rw [take_snoc hn, ← useS_put _ _ _ c]
        exact O1.setSt _
      · rw [deqF c]
        refine iteF ?_
        refine ⟨_, rfl, kk, ?_⟩
        rw [take_snoc hn, ← useS_skip _ _ _ c]
        exact O1
    · rintro σ H' ⟨v, rfl, kk, O1⟩
      rw [List.length_map, List.take_length] at O1
      exact k _ kk O1
def spStop (a : Ad) : Sp := fun vs H Q E => ∃ (F : Fp) (o : Of) (d : Int), vs = [.ref F.p, .int d] ∧ Off a H F o ∧ Wf o ∧ d.natAbs.log2 < 1920 ∧
  Ahead a H o d E fun i => ∀ (H' : Hp) (r : Addr), Keep F.foot H H' → Off a H' F (o.stop i) → H' r = some (.lst ((o.le.getD i []).map V.int)) → H r = none → r ∉ F.foot → Q (.ref r) H'
theorem ok_Office_stop (T : Txt K mg a fd) : FnOk P w K mg base (L2.CX P w) 3 a.Office_stop fd.Office_stop ["self", "desk"] (spStop a) := by
  have G_Office__check_going := ok_Office__check_going (P := P) (w := w) (base := base) T
  refine T.F_Office_stop.okX sc_Office_stop (fun vs H Q E h => ?_) (fun cdv A outer s H vs Q E hr h => ?_)
  · obtain ⟨F, o, d, rfl, _⟩ := h
    rfl
  · obtain ⟨F, o, d, rfl, O, W, hd, k1, k2⟩ := h
    have hu := hu_of hr
    refine ⟨_, (pss_cons (ps_expr (pe_meth (pv 0) T.cl T.m_Office__check_going G_Office__check_going (hr.mono (by decide)) T.b_Office__check_going .nil passU (pa_cons (pv 1) pa_nil)))
    (pss_cons (ps_asg (pe_gs (by rfl) T.g_STOPPED) (pg_sub (pe_fld (pv 0) rfl) (pv 1) set_list))
    (pss_cons (ps_for passesU rfl (pi_list (pe_ix ix_list (pe_fld (pv 0) rfl) (pv 1) (fun _ _ => rfl))) (pg_name (i := 2) sc_Office_stop.nd rfl (Or.inl rfl))
      (pss_one (ps_dput hu (pe_fld (pv 0) rfl) (pv 2) (pe_gs (by rfl) T.g_REST) rfl)))
    (pss_one (ps_ret (pe_callTy call_list_of (by rfl) T.n_list (by decide +kernel) (pa_cons (pe_ix ix_list (pe_fld (pv 0) rfl) (pv 1) (fun _ _ => rfl)) pa_nil))))))), ?_⟩
    refine ⟨_, rfl, F.p, F.dx, _, rfl, O.ob, ofl_m F, _, rfl, F, o, d, rfl, O, hd, k1, fun i z e1 e2 => ⟨fun c => (k2 i z e1 e2).1 c, fun c => ?_⟩⟩
    have k3 := (k2 i z e1 e2).2 c
    subst e1
    have his : i < o.sg.length := (List.getElem?_eq_some_iff.mp e2).1
    have hi : i < o.le.length := by
      rw [← W.sl]
      exact his
    have hns : o.le[i]? = some o.le[i] := List.getElem?_eq_getElem hi
    have hg := le_at hns
    have hil : i < F.ls.length := by rw [O.ll]; exact hi
    have hl1 : F.ls[i]? = some F.ls[i] := List.getElem?_eq_getElem hil
    obtain ⟨nd, own⟩ := W.own i _ hns
    have h4 := W.t400
    dsimp only at k3
    rw [hg] at k3
    refine rd_putSg T O rfl rfl his ?_
    rw [← List.map_set]
    have O1 := O.setSg (o.sg.set i "stopped")
    have k1' : Keep F.foot H (upd H F.aS (.lst ((o.sg.set i "stopped").map V.str))) := keep_upd (.inl (foot_aS F))
    generalize upd H F.aS (.lst ((o.sg.set i "stopped").map V.str)) = H1 at O1 k1' ⊢
    refine rd_lent1 T O1 rfl rfl hl1 ?_
    have hl := O1.each i _ _ hl1 hns
    refine ⟨_, rfl, ⟨_, SqL.of hl⟩, for_list (K := K) (a := F.ls[i]) (xs := o.le[i].map V.int)
      (fun j σ H' => ∃ v : Option V, σ = [some (.ref F.p), some (.int (i : Int)), v] ∧ Keep F.foot H H' ∧ Off a H' F { o with sg := o.sg.set i "stopped", st := fun n => if n ∈ o.le[i].take j then "rest" else o.st n })
      ⟨none, rfl, k1', by
        have e : (fun n => if n ∈ o.le[i].take 0 then ("rest" : Str) else o.st n) = o.st := funext fun n => if_neg (by simp)
        rw [e]
        exact O1⟩ (fun j σ H' _ ⟨_, _, _, O2⟩ => SqL.of (O2.each i _ _ hl1 hns)) ?_ ?_⟩
    · rintro j x σ H' hj ⟨v, rfl, kk, O2⟩
      obtain ⟨n, hn, rfl⟩ := map_int_at hj
      have b := own n (List.mem_of_getElem? hn)
      refine rd_putSt T O2 h4 rfl rfl ⟨b.1, b.2.1⟩ ?_
      refine ⟨_, rfl, kk.trans (keep_upd (.inl (foot_dS F))), ?_⟩
      have O3 := O2.setSt (fun m => if m = n then "rest" else if m ∈ o.le[i].take j then "rest" else o.st m)
      have e : (fun m => if m = n then ("rest" : Str) else if m ∈ o.le[i].take j then "rest" else o.st m) = fun m => if m ∈ o.le[i].take (j + 1) then ("rest" : Str) else o.st m := funext fun m => by
        rw [take_snoc hn]
        by_cases c : m = n
        · rw [if_pos c, if_pos (List.mem_append_right _ (List.mem_singleton.mpr c))]
        · rw [if_neg c]
          by_cases c2 : m ∈ o.le[i].take j
          · rw [if_pos c2, if_pos (List.mem_append_left _ c2)]
          · rw [if_neg c2, if_neg fun z => (List.mem_append.mp z).elim c2 fun q => c (List.mem_singleton.mp q)]
      rw [← e]
      exact O3
    · rintro σ H' ⟨v, rfl, kk, O2⟩
      rw [List.length_map, List.take_length] at O2
      have hl2 := O2.each i _ _ hl1 hns
      refine rd_lent1 T O2 rfl rfl hl1 ?_
      refine ⟨_, _, rfl, .inl (SqL.of hl2), fun r nr => ?_⟩
      refine k3 _ r (kk.trans (keep_upd (.inr nr))) ?_ upd_same (kk.free nr (O2.new nr)) (O2.new nr)
      have e : o.stop i = { o with sg := o.sg.set i "stopped", st := fun n => if n ∈ o.le[i] then "rest" else o.st n } := by
        unfold Of.stop
        rw [hg]
      rw [e]
      exact O2.upd_new nr
end
end Nu
namespace Nu
open PySem PySem.Spec PyProof.Rows L2
def Of.least (o : Of) (ns : List Int) : List Int := ns.filter fun n => !decide (o.st n = "rest")
def Of.found (o : Of) (i : Nat) (n : Int) : Of := { (o.useS ((o.le.getD i []).take ((o.le.getD i []).idxOf n))) with st := fun m => if m = n then "paper" else (o.useS ((o.le.getD i []).take ((o.le.getD i []).idxOf n))).st m }
theorem filter_snoc {α : Type} (p : α → Bool) (l : List α) (x : α) : (l ++ [x]).filter p = if p x = true then l.filter p ++ [x] else l.filter p := by
  rw [List.filter_append]
  by_cases c : p x = true
  · rw [if_pos c, List.filter_cons_of_pos c]
    rfl
  · rw [if_neg c, List.filter_cons_of_neg c]
    simp
theorem idx_before {ns : List Int} {n : Int} {m : Nat} {z : V} (hm : m < ns.idxOf n) (e : (ns.map V.int)[m]? = some z) : eqV z (V.int n) = false := by
  obtain ⟨y, hy, rfl⟩ := map_int_at e
  have h : ns[m]'((List.getElem?_eq_some_iff.mp hy).1) = y := (List.getElem?_eq_some_iff.mp hy).2
  have ne : y ≠ n := fun q => by
    have := List.not_of_lt_findIdx (p := (· == n)) (xs := ns) (i := m) hm
    rw [h, q] at this
    simp at this
  show decide (y = n) = false
  exact decide_eq_false ne
theorem eqV_refl (n : Int) : eqV (V.int n) (V.int n) = true := by
  show decide (n = n) = true
  exact decide_eq_true rfl
theorem flat_ints (ns : List Int) : (ns.map V.int).all flatV = true := by
  rw [List.all_map]
  exact List.all_eq_true.mpr fun _ _ => rfl
section
variable {P : Program} {w : World} {K : PySem.W.Frag} {mg : Str → Option Value} {base : Heap} {a : Ad} {fd : Fd}
def spLeastUsed (a : Ad) : Sp := fun vs H Q _ => ∃ (F : Fp) (o : Of) (i : Nat), vs = [.ref F.p, .int (i : Int)] ∧ Off a H F o ∧ Wf o ∧ o.sg[i]? = some ("stopped" : Str) ∧ ∀ H', Same H H' → Q (.int (((o.least (o.le.getD i [])).length : Nat) : Int)) H'
theorem ok_Office_least_used (T : Txt K mg a fd) : FnOk P w K mg base (L2.CX P w) 3 a.Office_least_used fd.Office_least_used ["self", "desk"] (spLeastUsed a) := by
  have G_Office_rest := ok_Office_rest (P := P) (w := w) (base := base) T
  refine T.F_Office_least_used.okX sc_Office_least_used (fun vs H Q E h => ?_) (fun cdv A outer s H vs Q E hr h => ?_)
  · obtain ⟨F, o, i, rfl, _⟩ := h
    rfl
  · obtain ⟨F, o, i, rfl, O, W, hz, k⟩ := h
    have hu := hu_of hr
    have his : i < o.sg.length := (List.getElem?_eq_some_iff.mp hz).1
    have hi : i < o.le.length := by rw [← W.sl]; exact his
    have hns : o.le[i]? = some o.le[i] := List.getElem?_eq_getElem hi
    have hg := le_at hns
    have d6 := W.d6
    obtain ⟨nd, own⟩ := W.own i _ hns
    have len := Wf.len400 W hns
    rw [hg] at k
    refine ⟨_, (pss_one (ps_ret (pe_callB call_len_seq (by rfl) T.n_len PySem.boot_len (pa_cons (pe_lc (own := [("number", 2)]) (g := gName 2) (by rfl) sc_Office_least_used.nd (pi_list (pe_meth (pv 0) T.cl T.m_Office_rest G_Office_rest (hr.mono (by decide)) T.b_Office_rest .nil passU (pa_cons (pv 1) pa_nil))) (blkOk_by (own := [("number", 2)]) (N := ["self", "desk", "number"]) (sc := defScope s_Office_least_used) (by decide +kernel)) (fun _ _ _ _ _ => pg_name (i := 2) sc_Office_least_used.nd rfl (Or.inl rfl)) (fun _ _ _ _ _ => (pts_one (pt_cmpR op_ne (pe_dget hu (pe_fldK (K := K) rfl (pv 0) rfl) (pv 2) (fun _ _ => rfl)) (pe_gs (by rfl) T.g_REST) (nomark _)))) (fun _ _ _ _ _ => (pv 2))) pa_nil)))), ?_⟩
    refine ⟨_, rfl, F.p, F.dx, _, rfl, O.ob, ofl_m F, _, rfl, F, o, (i : Int), rfl, O, W, log_nat (by omega), fun c => absurd (by omega) c, fun i' z' e1 e2 r nr => ?_⟩
    have ei : i' = i := by omega
    subst ei
    rw [hz] at e2
    cases e2
    rw [if_pos rfl, hg]
    have O1 : Off a (upd H r (.lst (o.le[i'].map V.int))) F o := O.upd_new nr
    have s1 : Same H (upd H r (.lst (o.le[i'].map V.int))) := same_upd nr
    have hr1 : (upd H r (.lst (o.le[i'].map V.int))) r = some (.lst (o.le[i'].map V.int)) := upd_same
    generalize upd H r (.lst (o.le[i'].map V.int)) = H1 at O1 s1 hr1 ⊢
    refine ⟨r, rfl, ⟨_, SqL.of hr1⟩, fun D nD => lc_list (K := K) (a := r) (xs := o.le[i'].map V.int)
      (fun j H' => Same H1 H' ∧ H' D = some (.lst ((o.least (o.le[i'].take j)).map V.int)))
      ⟨same_upd nD, by rw [List.take_zero]; exact upd_same⟩ (fun j H' _ ⟨s2, _⟩ => SqL.of (s2 _ _ hr1)) ?_ ?_⟩
    · rintro j x H' hj ⟨s2, hD⟩
      obtain ⟨n, hn, rfl⟩ := map_int_at hj
      have b := own n (List.mem_of_getElem? hn)
      have O2 : Off a H' F o := O1.stay fun c _ u e => s2 c u e
      refine ⟨wipe1 _ _ _, ?_⟩
      refine rd_state T O2 rfl rfl ⟨b.1, b.2.1⟩ ?_
      have st : o.least (o.le[i'].take (j + 1)) = if (!decide (o.st n = "rest")) = true then o.least (o.le[i'].take j) ++ [n] else o.least (o.le[i'].take j) := by
        unfold Of.least
        rw [take_snoc hn, filter_snoc]
      refine ⟨rfl, _, rfl, ?_⟩
      by_cases c : o.st n = "rest"
      · rw [dneF c]
        refine iteF ?_
        rw [if_neg (by rw [decide_eq_true c]; simp)] at st
        exact ⟨s2, by rw [st]; exact hD⟩
      · rw [dneT c]
        refine iteT ?_
        rw [if_pos (by rw [decide_eq_false c]; rfl)] at st
        have hll : (o.least (o.le[i'].take j)).length ≤ 400 := by
          refine Nat.le_trans (List.length_filter_le _ _) (Nat.le_trans (List.length_take_le' _ _) len)
        refine ⟨_, rfl, _, hD, small1000 (by rw [List.length_map]; omega), fun cc u e => ?_, ?_⟩
        · rw [upd_ne (fun z => by rw [z, nD] at e; cases e)]
          exact s2 cc u e
        · rw [st, upd_same]
          simp only [List.map_append, List.map_cons, List.map_nil]
    · rintro H' ⟨s2, hD⟩
      rw [List.length_map, List.take_length] at hD
      refine ⟨D, _, rfl, .inl (SqL.of hD), ?_⟩
      rw [List.length_map]
      exact k _ (s1.trans s2)
def spFound (a : Ad) : Sp := fun vs H Q E => ∃ (F : Fp) (o : Of) (n : Int), vs = [.ref F.p, .int n] ∧ Off a H F o ∧ Wf o ∧ n.natAbs.log2 < 1920 ∧ (¬ (1 ≤ n ∧ n ≤ (o.top : Int)) → E (.ref a.NoNumber) none H) ∧
  (1 ≤ n ∧ n ≤ (o.top : Int) → (o.st n = "paper" → E (.ref a.Twice) none H) ∧ (¬ o.st n = "paper" → ((∀ i : Nat, o.ho n = some (i : Int) → ¬ o.sg[i]? = some ("stopped" : Str)) → E (.ref a.NotThere) none H) ∧
    (∀ i : Nat, o.ho n = some (i : Int) → o.sg[i]? = some ("stopped" : Str) → ∀ H', Keep F.foot H H' → Off a H' F (o.found i n) → Q .non H')))
theorem ok_Office_found (T : Txt K mg a fd) : FnOk P w K mg base (L2.CX P w) 2 a.Office_found fd.Office_found ["self", "number"] (spFound a) := by
  have G_Office__use := ok_Office__use (P := P) (w := w) (base := base) T
  have G_Office_state := ok_Office_state (P := P) (w := w) (base := base) T
  have G_Office_holder := ok_Office_holder (P := P) (w := w) (base := base) T
  have G_Office_has_rest := ok_Office_has_rest (P := P) (w := w) (base := base) T
  refine T.F_Office_found.okX sc_Office_found (fun vs H Q E h => ?_) (fun cdv A outer s H vs Q E hr h => ?_)
  · obtain ⟨F, o, n, rfl, _⟩ := h
    rfl
  · obtain ⟨F, o, n, rfl, O, W, hlog, k1, k2⟩ := h
    have hu := hu_of hr
    refine ⟨_, (pss_cons (ps_if (pt_cmpR op_eq (pe_meth (pv 0) T.cl T.m_Office_state G_Office_state (hr.mono (by decide)) T.b_Office_state .nil passU (pa_cons (pv 1) pa_nil)) (pe_gs (by rfl) T.g_PAPER) (nomark _)) (pss_one (ps_raise rfl takesU (pmk_ownA PySem.F.excBase_ValueError T.x_Twice.x T.x_Twice.g T.x_Twice.k (raises_own T.x_Twice.b T.x_Twice.t) (by rfl) (pa_cons (pe_joined (.cons pe_str (.cons (pe_fmt (pv 1)) (.cons pe_str PJ.nil)))) pa_nil)))) pss_nil)
    (pss_cons (ps_set (i := 2) sc_Office_found.nd rfl (Or.inl rfl) (pe_meth (pv 0) T.cl T.m_Office_holder G_Office_holder (hr.mono (by decide)) T.b_Office_holder .nil pass0 (pa_cons (pv 1) pa_nil)))
    (pss_cons (ps_if (PW.pt (pw_or (pt_cmpR op_isN (pv 2) pe_non (nomark _)) (pw_or1 (pt_not (pt_val (pe_meth (pv 0) T.cl T.m_Office_has_rest G_Office_has_rest (hr.mono (by decide)) T.b_Office_has_rest .nil pass0 (pa_cons (pv 2) pa_nil))))))) (pss_one (ps_raise rfl takesU (pmk_ownA PySem.F.excBase_ValueError T.x_NotThere.x T.x_NotThere.g T.x_NotThere.k (raises_own T.x_NotThere.b T.x_NotThere.t) (by rfl) (pa_cons (pe_joined (.cons pe_str (.cons (pe_fmt (pv 1)) (.cons pe_str PJ.nil)))) pa_nil)))) pss_nil)
    (pss_cons (ps_set (i := 3) sc_Office_found.nd rfl (Or.inl rfl) (pe_ix ix_list (pe_fld (pv 0) rfl) (pv 2) (fun _ _ => rfl)))
    (pss_cons (ps_expr (pe_meth (pv 0) T.cl T.m_Office__use G_Office__use (hr.mono (by decide)) T.b_Office__use .nil pass0 (pa_cons (pe_slice sl_list (pv 3) po_none (po_some (pe_bm PySem.F.plainAttrs_list PySem.F.slot_list_index PySem.F.type_list_index mt_index (pv 3) (pa_cons (pv 1) pa_nil)))) pa_nil)))
    (pss_one (ps_dput hu (pe_fld (pv 0) rfl) (pv 1) (pe_gs (by rfl) T.g_PAPER) rfl))))))), ?_⟩
    refine ⟨_, rfl, F.p, F.dx, _, rfl, O.ob, ofl_m F, _, rfl, F, o, n, rfl, O, hlog, k1, fun hn => ?_⟩
    obtain ⟨k3, k4⟩ := k2 hn
    refine ⟨rfl, _, rfl, ?_⟩
    by_cases c : o.st n = "paper"
    · rw [deqT c]
      refine iteT ?_
      exact js_s (b := 0) (Nat.le_refl _) (by decide +kernel) (by omega) fun _ ha => js_f rfl hlog ha (by omega) fun _ ha => js_s ha (by decide +kernel) (by omega) fun _ _ => ⟨one_le _, k3 c⟩
    · rw [deqF c]
      refine iteF ?_
      obtain ⟨k5, k6⟩ := k4 c
      refine ⟨_, rfl, F.p, F.dx, _, rfl, O.ob, ofl_m F, _, rfl, F, o, n, rfl, O, ?_⟩
      have raise : ∀ (v : V), (∀ i : Nat, o.ho n = some (i : Int) → ¬ o.sg[i]? = some ("stopped" : Str)) → tJs [tC (.str "number "), tFmt (tVar 1), tC (.str " is in no rest")] Str.empty [some (.ref F.p), some (.int n), some v, none] H (fun out H1 => [V.str out].length ≤ sizeLine ∧ E (.ref a.NotThere) none H1) := fun v hh =>
        js_s (b := 0) (Nat.le_refl _) (by decide +kernel) (by omega) fun _ ha => js_f rfl hlog ha (by omega) fun _ ha => js_s ha (by decide +kernel) (by omega) fun _ _ => ⟨one_le _, k5 hh⟩
      cases hh : o.ho n with
      | none =>
        refine ⟨_, rfl, rfl, _, rfl, ?_⟩
        refine iteT (iteT ?_)
        exact raise .non (fun i e => by rw [hh] at e; cases e)
      | some d =>
        obtain ⟨ns, d0, hns, hmem⟩ := W.hol n d hh
        obtain ⟨i, rfl⟩ := Int.eq_ofNat_of_zero_le d0
        rw [Int.toNat_natCast] at hns
        have hi : i < o.le.length := (List.getElem?_eq_some_iff.mp hns).1
        have his : i < o.sg.length := by rw [W.sl]; exact hi
        have hsg : o.sg[i]? = some o.sg[i] := List.getElem?_eq_getElem his
        have hg := le_at hns
        refine ⟨_, rfl, rfl, _, rfl, ?_⟩
        refine iteF ?_
        refine ⟨_, rfl, F.p, F.dx, _, rfl, O.ob, ofl_m F, _, rfl, F, o, i, _, rfl, O, hsg, _, rfl, ?_⟩
        by_cases c2 : o.sg[i] = "stopped"
        · rw [decide_eq_true c2]
          refine iteF ?_
          have k7 := k6 i hh (by rw [hsg, c2])
          have hil : i < F.ls.length := by rw [O.ll]; exact hi
          have hl1 : F.ls[i]? = some F.ls[i] := List.getElem?_eq_getElem hil
          have hl := O.each i _ _ hl1 hns
          have hix : ns.idxOf n < ns.length := List.idxOf_lt_length_of_mem hmem
          have hat : (ns.map V.int)[ns.idxOf n]? = some (.int n) := by
            rw [List.getElem?_map, List.getElem?_eq_getElem hix, List.getElem_idxOf]
            rfl
          refine rd_lent1 T O rfl rfl hl1 ?_
          refine ⟨_, rfl, F.p, F.dx, _, rfl, O.ob, ofl_m F, _, rfl, _, rfl, .inl ⟨rfl, _, SqL.of hl⟩, _, rfl, F.ls[i], ns.map V.int, .int n, ns.idxOf n, .int n, rfl, rfl, SqL.of hl, rfl, flat_ints ns, hat, eqV_refl n, (fun m z' hm e => idx_before hm e), _, rfl, _, _, rfl, SqL.of hl, fun q nq => ?_⟩
          rw [cut_to, ← List.map_take]
          have O1 : Off a (upd H q (.lst ((ns.take (ns.idxOf n)).map V.int))) F o := O.upd_new nq
          have qF := O.new nq
          obtain ⟨nd, own⟩ := W.own i ns hns
          refine ⟨F, o, q, ns.take (ns.idxOf n), rfl, O1, W.t400, upd_same, qF, fun m hm => ⟨(own m (List.mem_of_mem_take hm)).1, (own m (List.mem_of_mem_take hm)).2.1⟩, fun H2 kk O2 => ?_⟩
          refine rd_putSt T O2 W.t400 rfl rfl hn ?_
          refine k7 _ (((keep_upd (.inr nq)).trans kk).trans (keep_upd (.inl (foot_dS F)))) ?_
          have e : o.found i n = { (o.useS (ns.take (ns.idxOf n))) with st := fun m => if m = n then "paper" else (o.useS (ns.take (ns.idxOf n))).st m } := by
            unfold Of.found
            rw [hg]
          rw [e]
          exact O2.setSt _
        · rw [decide_eq_false c2]
          refine iteT ?_
          exact raise _ (fun i' e => by
            rw [hh] at e
            have e1 : (i : Int) = (i' : Int) := Option.some.inj e
            have e2 : i' = i := by omega
            rw [e2, hsg]
            exact fun z => c2 (Option.some.inj z))
end
end Nu
namespace Nu
open PySem PySem.Spec PyProof.Rows L2
/-- the numbers that are let go at a settling, with what they are then -/
def Of.setl (o : Of) (i k : Nat) : List (Int × Str) := ((o.le.getD i []).take k).map (fun n => (n, (o.useS ((o.le.getD i []).take k)).st n)) ++ ((o.le.getD i []).drop k).map fun n => (n, ("free" : Str))
def Of.settle (o : Of) (i k : Nat) : Of := { ((o.useS ((o.le.getD i []).take k)).lets (o.setl i k)) with sg := o.sg.set i "settled", le := o.le.set i [] }
theorem setl_keys (o : Of) (i k : Nat) : (o.setl i k).map (·.1) = o.le.getD i [] := by
  unfold Of.setl
  rw [List.map_append, List.map_map, List.map_map]
  have e1 : ∀ l : List Int, l.map ((fun p : Int × Str => p.1) ∘ fun n => (n, (o.useS ((o.le.getD i []).take k)).st n)) = l := fun l => List.map_id' l
  have e2 : ∀ l : List Int, l.map ((fun p : Int × Str => p.1) ∘ fun n => (n, ("free" : Str))) = l := fun l => List.map_id' l
  rw [e1, e2, List.take_append_drop]
theorem nodup_notin {l : List Int} (h : l.Nodup) {j : Nat} {x : Int} (e : l[j]? = some x) : x ∉ l.take j := by
  intro hm
  obtain ⟨j', hj', q⟩ := List.getElem_of_mem hm
  rw [List.length_take] at hj'
  have h1 : l[j']? = some x := by
    rw [← q, List.getElem_take]
    exact List.getElem?_eq_getElem (by omega)
  have := (List.getElem?_inj (List.getElem?_eq_some_iff.mp h1).1 h).mp (h1.trans e.symm)
  omega
theorem useS_wf {o : Of} (w : Wf o) (ms : List Int) : Wf (o.useS ms) := by
  refine ⟨w.t1, w.t400, w.d1, w.d6, w.sl, w.own, w.hol, fun n e => ?_⟩
  have e : (if n ∈ ms ∧ o.st n = "rest" then ("used" : Str) else o.st n) = "free" := e
  by_cases c : n ∈ ms ∧ o.st n = "rest"
  · rw [if_pos c] at e
    exact absurd e (by decide +kernel)
  · rw [if_neg c] at e
    exact w.fre n e
section
variable {P : Program} {w : World} {K : PySem.W.Frag} {mg : Str → Option Value} {base : Heap} {a : Ad} {fd : Fd}
def spSettle (a : Ad) : Sp := fun vs H Q E => ∃ (F : Fp) (o : Of) (d m : Int), vs = [.ref F.p, .int d, .int m] ∧ Off a H F o ∧ Wf o ∧ d.natAbs.log2 < 1920 ∧ m.natAbs.log2 < 1920 ∧ (¬ (0 ≤ d ∧ d < (o.sg.length : Int)) → E (.ref a.NoDesk) none H) ∧
  ∀ (i : Nat) (z : Str), d = (i : Int) → o.sg[i]? = some z → (z ≠ "stopped" → E (.ref a.NotThere) none H) ∧ (z = "stopped" →
    (¬ ((((o.least (o.le.getD i [])).length : Nat) : Int) ≤ m ∧ m ≤ ((o.le.getD i []).length : Int)) → ∀ H', Same H H' → E (.ref a.NoCount) none H') ∧
    ((((o.least (o.le.getD i [])).length : Nat) : Int) ≤ m → m ≤ ((o.le.getD i []).length : Int) → ∀ (F' : Fp) (H' : Hp) (r : Addr) (ns' : List Int), Beh a H H' F F' (o.settle i m.toNat) → ns'.Perm ((o.le.getD i []).drop m.toNat) → ns'.Pairwise (· ≤ ·) →
      H' r = some (.lst (ns'.map V.int)) → H r = none → r ∉ F'.foot → Q (.ref r) H'))
theorem ok_Office_settle (T : Txt K mg a fd) : FnOk P w K mg base (L2.CX P w) 4 a.Office_settle fd.Office_settle ["self", "desk", "many"] (spSettle a) := by
  have G_Office__use := ok_Office__use (P := P) (w := w) (base := base) T
  have G_Office_least_used := ok_Office_least_used (P := P) (w := w) (base := base) T
  have G_Office__check_desk := ok_Office__check_desk (P := P) (w := w) (base := base) T
  have G_Office_has_rest := ok_Office_has_rest (P := P) (w := w) (base := base) T
  have G_Office__let_go := ok_Office__let_go (P := P) (w := w) (base := base) T
  refine T.F_Office_settle.okX sc_Office_settle (fun vs H Q E h => ?_) (fun cdv A outer s H vs Q E hr h => ?_)
  · obtain ⟨F, o, d, m, rfl, _⟩ := h
    rfl
  · obtain ⟨F, o, d, m, rfl, O, W, hd, hm, k1, k2⟩ := h
    have hu := hu_of hr
    refine ⟨_, (pss_cons (ps_expr (pe_meth (pv 0) T.cl T.m_Office__check_desk G_Office__check_desk (hr.mono (by decide)) T.b_Office__check_desk .nil passU (pa_cons (pv 1) pa_nil)))
    (pss_cons (ps_if (pt_not (pt_val (pe_meth (pv 0) T.cl T.m_Office_has_rest G_Office_has_rest (hr.mono (by decide)) T.b_Office_has_rest .nil pass0 (pa_cons (pv 1) pa_nil)))) (pss_one (ps_raise rfl takesU (pmk_ownA PySem.F.excBase_ValueError T.x_NotThere.x T.x_NotThere.g T.x_NotThere.k (raises_own T.x_NotThere.b T.x_NotThere.t) (by rfl) (pa_cons (pe_joined (.cons pe_str (.cons (pe_fmt (pv 1)) (.cons pe_str PJ.nil)))) pa_nil)))) pss_nil)
    (pss_cons (ps_set (i := 3) sc_Office_settle.nd rfl (Or.inl rfl) (pe_ix ix_list (pe_fld (pv 0) rfl) (pv 1) (fun _ _ => rfl)))
    (pss_cons (ps_if (PW.pt (pw_or (pt_cmpR op_lt (pv 2) (pe_meth (pv 0) T.cl T.m_Office_least_used G_Office_least_used (hr.mono (by decide)) T.b_Office_least_used .nil passU (pa_cons (pv 1) pa_nil)) (nomark _)) (pw_or1 (pt_cmpR op_gt (pv 2) (pe_callB call_len_seq (by rfl) T.n_len PySem.boot_len (pa_cons (pv 3) pa_nil)) (nomark _))))) (pss_one (ps_raise rfl takesU (pmk_ownA PySem.F.excBase_ValueError T.x_NoCount.x T.x_NoCount.g T.x_NoCount.k (raises_own T.x_NoCount.b T.x_NoCount.t) (by rfl) (pa_cons (pe_joined (.cons (pe_fmt (pv 2)) (.cons pe_str (.cons (pe_fmt (pv 1)) (.cons pe_str PJ.nil))))) pa_nil)))) pss_nil)
    (pss_cons (ps_set (i := 4) sc_Office_settle.nd rfl (Or.inl rfl) (pe_slice sl_list (pv 3) (po_some (pv 2)) po_none))
    (pss_cons (ps_expr (pe_meth (pv 0) T.cl T.m_Office__use G_Office__use (hr.mono (by decide)) T.b_Office__use .nil pass0 (pa_cons (pe_slice sl_list (pv 3) po_none (po_some (pv 2))) pa_nil)))
    (pss_cons (ps_for passesU rfl (pi_list (pe_slice sl_list (pv 3) po_none (po_some (pv 2)))) (pg_name (i := 5) sc_Office_settle.nd rfl (Or.inl rfl))
      (pss_one (ps_expr (pe_meth (pv 0) T.cl T.m_Office__let_go G_Office__let_go (hr.mono (by decide)) T.b_Office__let_go .nil pass0 (pa_cons (pv 5) (pa_cons (pe_dget hu (pe_fld (pv 0) rfl) (pv 5) (fun _ _ => rfl)) pa_nil))))))
    (pss_cons (ps_for passesU rfl (pi_list (pv 4)) (pg_name (i := 5) sc_Office_settle.nd rfl (Or.inl rfl))
      (pss_one (ps_expr (pe_meth (pv 0) T.cl T.m_Office__let_go G_Office__let_go (hr.mono (by decide)) T.b_Office__let_go .nil pass0 (pa_cons (pv 5) (pa_cons (pe_gs (by rfl) T.g_FREE) pa_nil))))))
    (pss_cons (ps_asg (pe_gs (by rfl) T.g_SETTLED) (pg_sub (pe_fld (pv 0) rfl) (pv 1) set_list))
    (pss_cons (ps_asg (pe_lst pa_nil) (pg_sub (pe_fld (pv 0) rfl) (pv 1) set_list))
    (pss_one (ps_ret (pe_callB cr_sortedI (by rfl) T.n_sorted (by decide +kernel) (pa_cons (pv 4) pa_nil)))))))))))))), ?_⟩
    refine ⟨_, rfl, F.p, F.dx, _, rfl, O.ob, ofl_m F, _, rfl, F, o, d, rfl, O, hd, k1, fun c => ?_⟩
    obtain ⟨i, rfl⟩ := Int.eq_ofNat_of_zero_le c.1
    have his : i < o.sg.length := by omega
    have hsg : o.sg[i]? = some o.sg[i] := List.getElem?_eq_getElem his
    obtain ⟨k3, k4⟩ := k2 i _ rfl hsg
    have hi : i < o.le.length := by rw [← W.sl]; exact his
    have hns : o.le[i]? = some o.le[i] := List.getElem?_eq_getElem hi
    have hg := le_at hns
    have d6 := W.d6
    have len := Wf.len400 W hns
    refine ⟨_, rfl, F.p, F.dx, _, rfl, O.ob, ofl_m F, _, rfl, F, o, i, _, rfl, O, hsg, _, rfl, ?_⟩
    by_cases c2 : o.sg[i] = "stopped"
    · rw [decide_eq_true c2]
      refine iteF ?_
      obtain ⟨k5, k6⟩ := k4 c2
      rw [hg] at k5 k6
      have hil : i < F.ls.length := by rw [O.ll]; exact hi
      have hl1 : F.ls[i]? = some F.ls[i] := List.getElem?_eq_getElem hil
      have hl := O.each i _ _ hl1 hns
      obtain ⟨nd, own⟩ := W.own i _ hns
      refine rd_lent1 T O rfl rfl hl1 ?_
      refine ⟨_, rfl, _, rfl, F.p, F.dx, _, rfl, O.ob, ofl_m F, _, rfl, F, o, i, rfl, O, W, by rw [hsg, c2], fun H1 s1 => ?_⟩
      rw [hg]
      have O1 : Off a H1 F o := O.stay fun c _ u e => s1 c u e
      have no : (¬ ((((o.least o.le[i]).length : Nat) : Int) ≤ m ∧ m ≤ (o.le[i].length : Int))) → ∀ (v : Option V), tJs [tFmt (tVar 2), tC (.str " of the rest of desk "), tFmt (tVar 1), tC (.str " cannot have been used")] Str.empty [some (.ref F.p), some (.int (i : Int)), some (.int m), some (.ref F.ls[i]), none, v] H1 (fun out H2 => [V.str out].length ≤ sizeLine ∧ E (.ref a.NoCount) none H2) := fun hh v =>
        js_f (b := 0) rfl hm (Nat.le_refl _) (by omega) fun _ ha => js_s ha (by decide +kernel) (by omega) fun _ ha => js_f rfl hd ha (by omega) fun _ ha => js_s ha (by decide +kernel) (by omega) fun _ _ => ⟨one_le _, k5 hh H1 s1⟩
      refine ⟨_, _, rfl, rfl, _, rfl, ?_⟩
      by_cases c3 : m < (((o.least o.le[i]).length : Nat) : Int)
      · rw [decide_eq_true c3]
        refine iteT (iteT ?_)
        exact no (by omega) none
      · rw [decide_eq_false c3]
        refine iteF ?_
        have hl' := O1.each i _ _ hl1 hns
        refine ⟨_, rfl, _, rfl, F.ls[i], _, rfl, .inl (SqL.of hl'), _, _, rfl, rfl, _, rfl, ?_⟩
        rw [List.length_map]
        by_cases c4 : (o.le[i].length : Int) < m
        · rw [decide_eq_true c4]
          refine iteT ?_
          exact no (by omega) none
        · rw [decide_eq_false c4]
          refine iteF ?_
          obtain ⟨km, rfl⟩ := Int.eq_ofNat_of_zero_le (show 0 ≤ m by omega)
          have k7 := k6 (by omega) (by omega)
          have hkm : km ≤ o.le[i].length := by omega
          rw [show ((km : Int)).toNat = km from Int.toNat_natCast km] at k7
          -- unused = rest[many:]
          refine ⟨_, rfl, _, rfl, _, rfl, _, _, rfl, SqL.of hl', fun u nu => ?_⟩
          rw [cut_from _ _ (by rw [List.length_map]; exact hkm), ← List.map_drop]
          have uF := O1.new nu
          have O2 : Off a (upd H1 u (.lst ((o.le[i].drop km).map V.int))) F o := O1.upd_new nu
          have s2 : Same H (upd H1 u (.lst ((o.le[i].drop km).map V.int))) := s1.trans (same_upd nu)
          have hu2 : (upd H1 u (.lst ((o.le[i].drop km).map V.int))) u = some (.lst ((o.le[i].drop km).map V.int)) := upd_same
          have nuH : H u = none := s1.free nu
          generalize upd H1 u (.lst ((o.le[i].drop km).map V.int)) = H2 at O2 s2 hu2 ⊢
          have hl2 := O2.each i _ _ hl1 hns
          -- self._use(rest[:many])
          refine ⟨_, rfl, F.p, F.dx, _, rfl, O2.ob, ofl_m F, _, rfl, _, rfl, _, rfl, _, _, rfl, SqL.of hl2, fun q nq => ?_⟩
          rw [cut_to, ← List.map_take]
          have O3 : Off a (upd H2 q (.lst ((o.le[i].take km).map V.int))) F o := O2.upd_new nq
          refine ⟨F, o, q, o.le[i].take km, rfl, O3, W.t400, upd_same, O2.new nq, fun n hn => ⟨(own n (List.mem_of_mem_take hn)).1, (own n (List.mem_of_mem_take hn)).2.1⟩, fun H4 kk4 O4 => ?_⟩
          have k4' : Keep F.foot H2 H4 := (keep_upd (.inr nq)).trans kk4
          have hl4 := O4.each i _ _ hl1 hns
          -- for number in rest[:many]
          refine ⟨_, rfl, _, rfl, _, rfl, _, _, rfl, SqL.of hl4, fun q2 nq2 => ?_⟩
          rw [cut_to, ← List.map_take]
          have O5 : Off a (upd H4 q2 (.lst ((o.le[i].take km).map V.int))) F (o.useS (o.le[i].take km)) := O4.upd_new nq2
          have q2F := O4.new nq2
          have k5' : Keep F.foot H2 (upd H4 q2 (.lst ((o.le[i].take km).map V.int))) := k4'.trans (keep_upd (.inr nq2))
          have hq2 : (upd H4 q2 (.lst ((o.le[i].take km).map V.int))) q2 = some (.lst ((o.le[i].take km).map V.int)) := upd_same
          generalize upd H4 q2 (.lst ((o.le[i].take km).map V.int)) = H5 at O5 k5' hq2 ⊢
          have LK : (o.setl i km).map (·.1) = o.le[i] := by rw [setl_keys, hg]
          have L1 : ∀ (j : Nat) (n : Int), (o.le[i].take km)[j]? = some n → (o.setl i km)[j]? = some (n, (o.useS (o.le[i].take km)).st n) := fun j n hn => by
            unfold Of.setl
            rw [hg, List.getElem?_append_left (by rw [List.length_map]; exact (List.getElem?_eq_some_iff.mp hn).1), List.getElem?_map, hn]
            rfl
          have L2 : ∀ (j : Nat) (n : Int), (o.le[i].drop km)[j]? = some n → (o.setl i km)[km + j]? = some (n, ("free" : Str)) := fun j n hn => by
            unfold Of.setl
            rw [hg, List.getElem?_append_right (by rw [List.length_map, List.length_take]; omega), List.length_map, List.length_take, show km + j - min km o.le[i].length = j by omega, List.getElem?_map, hn]
            rfl
          have keyAt : ∀ (t : Nat) (n : Int) (z : Str), (o.setl i km)[t]? = some (n, z) → o.le[i][t]? = some n := fun t n z e => by
            rw [← LK, List.getElem?_map, e]
            rfl
          have step : ∀ (t : Nat) (n : Int) (z : Str) (H' : Hp), (o.setl i km)[t]? = some (n, z) → (1 ≤ n ∧ n ≤ (o.top : Int)) ∧ n ∉ ((o.setl i km).take t).map (·.1) ∧ ((o.useS (o.le[i].take km)).lets ((o.setl i km).take t)).ho n = some (i : Int) := fun t n z H' e => by
            have h1 := keyAt t n z e
            have b := own n (List.mem_of_getElem? h1)
            have h2 : n ∉ ((o.setl i km).take t).map (·.1) := by
              rw [List.map_take, LK]
              exact nodup_notin nd h1
            exact ⟨⟨b.1, b.2.1⟩, h2, by rw [lets_ho, if_neg h2]; exact b.2.2⟩
          refine ⟨q2, rfl, ⟨_, SqL.of hq2⟩, for_list (K := K) (a := q2) (xs := (o.le[i].take km).map V.int)
            (fun j σ H' => ∃ v : Option V, σ = [some (.ref F.p), some (.int (i : Int)), some (.int (km : Int)), some (.ref F.ls[i]), some (.ref u), v] ∧ Keep F.foot H5 H' ∧ Off a H' F ((o.useS (o.le[i].take km)).lets ((o.setl i km).take j)))
            ⟨none, rfl, Keep.refl _ _, O5⟩ (fun j σ H' _ ⟨_, _, kk, _⟩ => SqL.of (kk _ _ hq2 q2F)) ?_ ?_⟩
          · rintro j x σ H' hj ⟨v, rfl, kk, O6⟩
            obtain ⟨n, hn, rfl⟩ := map_int_at hj
            have hz := L1 j n hn
            obtain ⟨b, h2, h3⟩ := step j n _ H' hz
            have tp := lets_top ((o.setl i km).take j) (o.useS (o.le[i].take km))
            refine ⟨_, rfl, F.p, F.dx, _, rfl, O6.ob, ofl_m F, _, rfl, ?_⟩
            refine rd_state T O6 rfl rfl (by rw [tp.1]; exact b) ?_
            rw [lets_st_out _ _ _ h2]
            refine ⟨F, _, n, _, rfl, O6, by rw [tp.1]; exact b, by rw [tp.1]; exact W.t400, ⟨_, h3⟩, fun H7 kk7 O7 => ?_⟩
            refine ⟨_, rfl, kk.trans kk7, ?_⟩
            rw [take_snoc hz, lets_snoc]
            exact O7
          · rintro σ H' ⟨v, rfl, kk, O6⟩
            rw [List.length_map, List.length_take, show min km o.le[i].length = km by omega] at O6
            have hu6 := kk _ _ (k5' _ _ hu2 uF) uF
            refine ⟨_, rfl, u, rfl, ⟨_, SqL.of hu6⟩, for_list (K := K) (a := u) (xs := (o.le[i].drop km).map V.int)
              (fun j σ H' => ∃ v : Option V, σ = [some (.ref F.p), some (.int (i : Int)), some (.int (km : Int)), some (.ref F.ls[i]), some (.ref u), v] ∧ Keep F.foot H5 H' ∧ Off a H' F ((o.useS (o.le[i].take km)).lets ((o.setl i km).take (km + j))))
              ⟨_, rfl, kk, O6⟩ (fun j σ H' _ ⟨_, _, kk, _⟩ => SqL.of (kk _ _ (k5' _ _ hu2 uF) uF)) ?_ ?_⟩
            · rintro j x σ H' hj ⟨v, rfl, kk, O6⟩
              obtain ⟨n, hn, rfl⟩ := map_int_at hj
              have hz := L2 j n hn
              obtain ⟨b, h2, h3⟩ := step (km + j) n _ H' hz
              have tp := lets_top ((o.setl i km).take (km + j)) (o.useS (o.le[i].take km))
              refine ⟨_, rfl, F.p, F.dx, _, rfl, O6.ob, ofl_m F, _, rfl, F, _, n, "free", rfl, O6, by rw [tp.1]; exact b, by rw [tp.1]; exact W.t400, ⟨_, h3⟩, fun H7 kk7 O7 => ?_⟩
              refine ⟨_, rfl, kk.trans kk7, ?_⟩
              rw [show km + (j + 1) = (km + j) + 1 by omega, take_snoc hz, lets_snoc]
              exact O7
            · rintro σ H6 ⟨v, rfl, kk6, O6⟩
              have el : (o.setl i km).take (km + ((o.le[i].drop km).map V.int).length) = o.setl i km := List.take_of_length_le (by
                have := congrArg List.length LK
                rw [List.length_map] at this
                rw [this, List.length_map, List.length_drop]
                omega)
              rw [el] at O6
              have tp := lets_top (o.setl i km) (o.useS (o.le[i].take km))
              have kH6 : Keep F.foot H H6 := (Keep.same s2).trans (k5'.trans kk6)
              have hu7 : H6 u = some (.lst ((o.le[i].drop km).map V.int)) := kk6 _ _ (k5' _ _ hu2 uF) uF
              have hsg6 : ((o.useS (o.le[i].take km)).lets (o.setl i km)).sg = o.sg := tp.2.1
              have hle6 : ((o.useS (o.le[i].take km)).lets (o.setl i km)).le = o.le := tp.2.2
              refine rd_putSg T O6 rfl rfl (by rw [hsg6]; exact his) ?_
              rw [← List.map_set, hsg6]
              have O7 := O6.setSg (o.sg.set i "settled")
              have kH7 : Keep F.foot H (upd H6 F.aS (.lst ((o.sg.set i "settled").map V.str))) := kH6.trans (keep_upd (.inl (foot_aS F)))
              have hu8 : (upd H6 F.aS (.lst ((o.sg.set i "settled").map V.str))) u = some (.lst ((o.le[i].drop km).map V.int)) := by
                rw [upd_ne (fun z => uF (by rw [z]; exact foot_aS F))]
                exact hu7
              generalize upd H6 F.aS (.lst ((o.sg.set i "settled").map V.str)) = H7 at O7 kH7 hu8 ⊢
              refine ⟨Nat.zero_le _, fun r nr => ?_⟩
              have O8 : Off a (upd H7 r (.lst [])) F _ := O7.upd_new nr
              refine rd_put T O8 rfl rfl hil ?_
              rw [← List.map_set]
              have B := Beh.newLe (d := i) O7 kH7 nr hil []
              have eo : o.settle i km = { ({ ((o.useS (o.le[i].take km)).lets (o.setl i km)) with sg := o.sg.set i "settled" } : Of) with le := ({ ((o.useS (o.le[i].take km)).lets (o.setl i km)) with sg := o.sg.set i "settled" } : Of).le.set i [] } := by
                show _ = { ({ ((o.useS (o.le[i].take km)).lets (o.setl i km)) with sg := o.sg.set i "settled" } : Of) with le := ((o.useS (o.le[i].take km)).lets (o.setl i km)).le.set i [] }
                unfold Of.settle
                rw [hg, hle6]
              have ur : u ≠ r := fun z => by rw [z, nr] at hu8; cases hu8
              have hu9 : (upd (upd H7 r (.lst [])) F.aL (.lst ((F.ls.set i r).map V.ref))) u = some (.lst ((o.le[i].drop km).map V.int)) := by
                rw [upd_ne (fun z => uF (by rw [z]; exact foot_aL F)), upd_ne ur]
                exact hu8
              refine ⟨_, rfl, u, _, rfl, SqL.of hu9, fun ns' p pm pw hp => ?_⟩
              have pF := B.of.new hp
              refine k7 { F with ls := F.ls.set i r } _ p ns' ⟨fun c u' e hc => ?_, B.ff, rfl, by rw [eo]; exact B.of.upd_new hp⟩ pm pw upd_same ?_ pF
              · have h1 := B.kp c u' e hc
                rw [upd_ne (fun z => by rw [z] at h1; exact absurd (h1.symm.trans hp) (by simp))]
                exact h1
              · refine B.kp.free hp fun z => ?_
                obtain ⟨u1, hu1⟩ := O7.has p z
                by_cases d1 : p = F.aL
                · exact pF (by rw [d1]; exact foot_aL _)
                · rw [upd_ne d1] at hp
                  by_cases d2 : p = r
                  · rw [d2, upd_same] at hp
                    cases hp
                  · rw [upd_ne d2, hu1] at hp
                    cases hp
    · rw [decide_eq_false c2]
      refine iteT ?_
      exact js_s (b := 0) (Nat.le_refl _) (by decide +kernel) (by omega) fun _ ha => js_f rfl hd ha (by omega) fun _ ha => js_s ha (by decide +kernel) (by omega) fun _ _ => ⟨one_le _, k3 c2⟩
end
end Nu
namespace Nu
open PySem PySem.Spec PyProof.Rows L2
theorem inV_ints (n : Int) (ns : List Int) : inV (V.int n) (ns.map V.int) = decide (n ∈ ns) := by
  unfold inV
  rw [List.any_map]
  by_cases c : n ∈ ns
  · rw [decide_eq_true c]
    exact List.any_eq_true.mpr ⟨n, c, by show decide (n = n) = true; exact decide_eq_true rfl⟩
  · rw [decide_eq_false c]
    refine List.any_eq_false.mpr fun x hx => ?_
    show ¬ decide (x = n) = true
    rw [decide_eq_false (fun z => c (by rw [← z]; exact hx))]
    simp
def Lm.lowOf (M : Lm) (i : Nat) : Int := (M.lo.getD i none).getD 0
def Lm.found (M : Lm) (i : Nat) (n : Int) : Lm := { M with sn := fun m => if m = n then true else M.sn m, lo := M.lo.set i (some (if 1 + (((M.ly.getD i []).idxOf n : Nat) : Int) > M.lowOf i then 1 + (((M.ly.getD i []).idxOf n : Nat) : Int) else M.lowOf i)) }
def Lm.stop (M : Lm) (i : Nat) : Lm := { M with go := M.go.set i false, lo := M.lo.set i (some 0) }
def Lm.setw (M : Lm) (i k : Nat) : List (Int × Str) := ((M.ly.getD i []).take k).map fun n => (n, if M.sn n = true then ("paper" : Str) else "used")
def Lm.settle (M : Lm) (i k : Nat) : Lm := { M.puts (M.setw i k) with ly := M.ly.set i [], lo := M.lo.set i none }
theorem SnK.put {kvs : List (Key × V)} {M : Lm} (h : SnK kvs M) {n : Int} (hn : 1 ≤ n ∧ n ≤ (M.top : Int)) : SnK (putK kvs (Sum.inl n) (.bl true)) { M with sn := fun m => if m = n then true else M.sn m } := by
  have at2 : ∀ m : Int, valV (putK kvs (Sum.inl n) (.bl true)) (Sum.inl m) = if (if m = n then true else M.sn m) = true then some (.bl true) else none := fun m => by
    rw [valV_put]
    by_cases c : m = n
    · rw [if_pos (by rw [c]), if_pos c, if_pos rfl]
    · rw [if_neg (fun q => c (Sum.inl.inj q)), if_neg c]
      exact h.at_ m
  cases e : valV kvs (Sum.inl n : Key) with
  | none =>
    refine ⟨nd_putK _ h.nd e, fun k hk => ?_, at2⟩
    rw [putK_new _ e, List.map_append] at hk
    rcases List.mem_append.mp hk with q | q
    · exact h.rg k q
    · have q : k = Sum.inl n := by simpa using q
      exact ⟨n, q, hn.1, hn.2⟩
  | some v =>
    have ek := putK_keys (v := V.bl true) (show (valV kvs (Sum.inl n : Key)).isSome = true by rw [e]; rfl)
    exact ⟨by rw [ek]; exact h.nd, fun k hk => h.rg k (by rw [ek] at hk; exact hk), at2⟩
section
variable {H : Hp} {A : La} {M : Lm}
theorem Lw.setSn (L : Lw H A M) {kvs : List (Key × V)} {sn' : Int → Bool} (hw : SnK kvs { M with sn := sn' }) : Lw (upd H A.dN (.dK kvs)) A { M with sn := sn' } := by
  have n := L.ne
  obtain ⟨w2, e2, q2⟩ := L.wd
  refine ⟨by rw [upd_ne n.m_dN]; exact L.mm, ⟨w2, by rw [upd_ne n.dW_dN]; exact e2, ⟨q2.nd, q2.rg, q2.at_⟩⟩, ⟨kvs, upd_same, hw⟩, by rw [upd_ne n.dN_aY.symm]; exact L.ly, L.ll, fun i l ns f1 f2 => ?_, by rw [upd_ne n.dN_aG.symm]; exact L.go, by rw [upd_ne n.dN_aO.symm]; exact L.lo, L.nd⟩
  rw [upd_ne (mem_ne n.dN_ys f1)]
  exact L.each i l ns f1 f2
theorem Lw.setGo (L : Lw H A M) (go' : List Bool) : Lw (upd H A.aG (.lst (go'.map V.bl))) A { M with go := go' } := by
  have n := L.ne
  obtain ⟨w1, e1, q1⟩ := L.wd
  obtain ⟨w2, e2, q2⟩ := L.sn
  refine ⟨by rw [upd_ne n.m_aG]; exact L.mm, ⟨w1, by rw [upd_ne n.dW_aG]; exact e1, ⟨q1.nd, q1.rg, q1.at_⟩⟩, ⟨w2, by rw [upd_ne n.dN_aG]; exact e2, ⟨q2.nd, q2.rg, q2.at_⟩⟩, by rw [upd_ne n.aY_aG]; exact L.ly, L.ll, fun i l ns f1 f2 => ?_, upd_same, by rw [upd_ne n.aG_aO.symm]; exact L.lo, L.nd⟩
  rw [upd_ne (mem_ne n.aG_ys f1)]
  exact L.each i l ns f1 f2
theorem Lw.setLo (L : Lw H A M) (lo' : List (Option Int)) : Lw (upd H A.aO (.lst (lo'.map oV))) A { M with lo := lo' } := by
  have n := L.ne
  obtain ⟨w1, e1, q1⟩ := L.wd
  obtain ⟨w2, e2, q2⟩ := L.sn
  refine ⟨by rw [upd_ne n.m_aO]; exact L.mm, ⟨w1, by rw [upd_ne n.dW_aO]; exact e1, ⟨q1.nd, q1.rg, q1.at_⟩⟩, ⟨w2, by rw [upd_ne n.dN_aO]; exact e2, ⟨q2.nd, q2.rg, q2.at_⟩⟩, by rw [upd_ne n.aY_aO]; exact L.ly, L.ll, fun i l ns f1 f2 => ?_, by rw [upd_ne n.aG_aO]; exact L.go, upd_same, L.nd⟩
  rw [upd_ne (mem_ne n.aO_ys f1)]
  exact L.each i l ns f1 f2
end
theorem lfoot_dN (A : La) : A.dN ∈ A.foot := by simp [La.foot]
theorem lfoot_aG (A : La) : A.aG ∈ A.foot := by simp [La.foot]
theorem lfoot_aO (A : La) : A.aO ∈ A.foot := by simp [La.foot]
section
variable {H : Hp} {A : La} {M : Lm} {σ : L2.St} {Q : VK} {i j : Nat}
theorem rd_ms (L : Lw H A M) (h0 : σ[i]? = some (some (.ref A.m))) (h : Q (.ref A.dN) H) : tDGet (tVar i) (tC (.str "seen")) σ H Q :=
  ⟨_, h0, A.m, _, rfl, (by have e := DGet.k (k := Sum.inr "seen") L.mm; rw [mk_seen] at e; exact e), h⟩
theorem rd_ml (L : Lw H A M) (h0 : σ[i]? = some (some (.ref A.m))) (h : Q (.ref A.aO) H) : tDGet (tVar i) (tC (.str "low")) σ H Q :=
  ⟨_, h0, A.m, _, rfl, (by have e := DGet.k (k := Sum.inr "low") L.mm; rw [mk_low] at e; exact e), h⟩
/-- _law_m['low'][desk] -/
theorem rd_ml1 {K : PySem.W.Frag} (L : Lw H A M) (h0 : σ[i]? = some (some (.ref A.m))) {d : Nat} (h1 : σ[j]? = some (some (.int (d : Int)))) {z : Option Int} (b : M.lo[d]? = some z) (h : Q (oV z) H) : tOp (rIxL K) (tDGet (tVar i) (tC (.str "low"))) (tVar j) σ H Q := by
  refine rd_ml L h0 ?_
  refine ⟨_, h1, A.aO, _, _, _, rfl, rfl, SqL.of L.lo, atI_nat ?_, h⟩
  rw [List.getElem?_map, b]
  rfl
theorem rd_mgput {v : V} {d : Nat} {R : L2.St → Hp → Prop} (L : Lw H A M) (h0 : σ[i]? = some (some (.ref A.m))) (h1 : σ[j]? = some (some (.int (d : Int)))) (hd : d < M.go.length) (h : R σ (upd H A.aG (.lst ((M.go.map V.bl).set d v)))) : gSub (tDGet (tVar i) (tC (.str "goes"))) (tVar j) rSetL v σ H R := by
  refine rd_mg L h0 ?_
  exact ⟨_, h1, A.aG, _, _, d, rfl, rfl, L.go, ixN_nat (by rw [List.length_map]; exact hd), h⟩
theorem rd_mlput {v : V} {d : Nat} {R : L2.St → Hp → Prop} (L : Lw H A M) (h0 : σ[i]? = some (some (.ref A.m))) (h1 : σ[j]? = some (some (.int (d : Int)))) (hd : d < M.lo.length) (h : R σ (upd H A.aO (.lst ((M.lo.map oV).set d v)))) : gSub (tDGet (tVar i) (tC (.str "low"))) (tVar j) rSetL v σ H R := by
  refine rd_ml L h0 ?_
  exact ⟨_, h1, A.aO, _, _, d, rfl, rfl, L.lo, ixN_nat (by rw [List.length_map]; exact hd), h⟩
end
section
variable {P : Program} {w : World} {K : PySem.W.Frag} {mg : Str → Option Value} {base : Heap} {a : Ad} {fd : Fd}
def spLHolder : Sp := fun vs H Q _ => ∃ (A : La) (M : Lm) (n : Int), vs = [.ref A.m, .int n] ∧ Lw H A M ∧ M.ly.length ≤ 6 ∧ ((∀ (i : Nat) (ns : List Int), M.ly[i]? = some ns → n ∉ ns) → Q .non H) ∧ ∀ (i : Nat) (ns : List Int), M.ly[i]? = some ns → n ∈ ns → (∀ (j : Nat) (ms : List Int), j < i → M.ly[j]? = some ms → n ∉ ms) → Q (.int (i : Int)) H
theorem ok_l_holder (T : Txt K mg a fd) : FnOk P w K mg base CX0 1 a.l_holder fd.l_holder ["_law_m", "_law_number"] spLHolder := by
  refine T.F_l_holder.ok sc_l_holder (fun vs H Q E h => ?_) (fun cdv A0 outer s H vs Q E hr h => ?_)
  · obtain ⟨A, M, n, rfl, _⟩ := h
    rfl
  · obtain ⟨A, M, n, rfl, L, d6, k1, k2⟩ := h
    have hu := hu_of hr
    refine ⟨_, (pss_cons (ps_for PassesOwn.never rfl (pi_range1 (by rfl) T.n_range (pa_cons (pe_callB call_len_seq (by rfl) T.n_len PySem.boot_len (pa_cons (pe_dget hu (pv 0) pe_str (fun _ _ => rfl)) pa_nil)) pa_nil)) (pg_name (i := 2) sc_l_holder.nd rfl (Or.inl rfl))
      (pss_one (ps_if (pt_cmpR op_in_seq (pv 1) (pe_ix ix_list (pe_dget hu (pv 0) pe_str (fun _ _ => rfl)) (pv 2) (fun _ _ => rfl)) (by rfl)) (pss_one (ps_ret (pv 2))) pss_nil)))
    (pss_one (ps_ret pe_non))), ?_⟩
    refine rd_my L rfl ?_
    refine ⟨A.aY, _, rfl, .inl (SqL.of L.ly), _, rfl, by omega, by rw [List.length_map, L.ll]; omega, ?_⟩
    refine for_range (lo := 0) (n := (((A.ys.map V.ref).length : Nat) : Int).toNat) (fun i σ H' => ∃ v : Option V, σ = [some (.ref A.m), some (.int n), v] ∧ H' = H ∧ ∀ (j : Nat) (ms : List Int), j < i → M.ly[j]? = some ms → n ∉ ms) ⟨none, rfl, rfl, fun j ms h => by omega⟩ ?_ ?_
    · rintro i σ H' hi ⟨v, rfl, rfl, hb⟩
      have hi : i < M.ly.length := by rw [List.length_map, L.ll] at hi; omega
      have hns : M.ly[i]? = some M.ly[i] := List.getElem?_eq_getElem hi
      have hl1 : A.ys[i]? = some (A.ys[i]'(by rw [L.ll]; exact hi)) := List.getElem?_eq_getElem _
      have hrow := L.each i _ _ hl1 hns
      have e0 : (0 : Int) + (i : Int) = (i : Int) := by omega
      rw [e0]
      refine ⟨_, rfl, ?_⟩
      refine rd_my1 L rfl rfl hl1 ?_
      refine ⟨_, _, rfl, .inl (SqL.of hrow), rfl, flat_ints _, _, rfl, ?_⟩
      rw [if_neg (by simp), inV_ints]
      by_cases c : n ∈ M.ly[i]
      · rw [decide_eq_true c]
        refine iteT ?_
        exact ⟨_, rfl, k2 i _ hns c hb⟩
      · rw [decide_eq_false c]
        refine iteF ?_
        refine ⟨_, rfl, rfl, fun j ms hj e => ?_⟩
        by_cases q : j < i
        · exact hb j ms q e
        · have q : j = i := by omega
          subst q
          rw [hns] at e
          cases e
          exact c
    · rintro σ H' ⟨v, rfl, rfl, hb⟩
      refine k1 fun i ns e => hb i ns ?_ e
      rw [List.length_map, L.ll]
      have := (List.getElem?_eq_some_iff.mp e).1
      omega
end
end Nu
namespace Nu
open PySem PySem.Spec PyProof.Rows L2
theorem ly_at {M : Lm} {d : Nat} {ns : List Int} (h : M.ly[d]? = some ns) : M.ly.getD d [] = ns := by rw [List.getD_eq_getElem?_getD, h]; rfl
theorem low_at {M : Lm} {d : Nat} {k : Int} (h : M.lo[d]? = some (some k)) : M.lowOf d = k := by
  unfold Lm.lowOf
  rw [List.getD_eq_getElem?_getD, h]
  rfl
section
variable {P : Program} {w : World} {K : PySem.W.Frag} {mg : Str → Option Value} {base : Heap} {a : Ad} {fd : Fd}
def Lm.twice (M : Lm) (n : Int) : Prop := M.sn n = true ∨ M.wd n = some ("paper" : Str)
def spLFound : Sp := fun vs H Q _ => ∃ (A : La) (M : Lm) (n : Int), vs = [.ref A.m, .int n] ∧ Lw H A M ∧ WfM M ∧ (¬ (1 ≤ n ∧ n ≤ (M.top : Int)) → Q (.str "NoNumber") H) ∧
  (1 ≤ n ∧ n ≤ (M.top : Int) → (M.twice n → Q (.str "Twice") H) ∧ (¬ M.twice n → ((∀ (i : Nat) (ns : List Int), M.ly[i]? = some ns → n ∉ ns) → Q (.str "NotThere") H) ∧
    ∀ (i : Nat) (ns : List Int), M.ly[i]? = some ns → n ∈ ns → (M.go[i]? = some true ∧ Q (.str "NotThere") H) ∨ (M.go[i]? = some false ∧ ∃ k : Int, M.lo[i]? = some (some k) ∧ ∀ H', Keep A.foot H H' → Lw H' A (M.found i n) → Q .non H')))
theorem ok_l_found (T : Txt K mg a fd) : FnOk P w K mg base CX0 2 a.l_found fd.l_found ["_law_m", "_law_number"] spLFound := by
  have G_l_holder := ok_l_holder (P := P) (w := w) (base := base) T
  refine T.F_l_found.ok sc_l_found (fun vs H Q E h => ?_) (fun cdv A0 outer s H vs Q E hr h => ?_)
  · obtain ⟨A, M, n, rfl, _⟩ := h
    rfl
  · obtain ⟨A, M, n, rfl, L, W, k1, k2⟩ := h
    have hu := hu_of hr
    refine ⟨_, (pss_cons (ps_if (pt_not (pt_chain op_le op_le pe_int (pv 1) (pe_dget hu (pv 0) pe_str (fun _ _ => rfl)))) (pss_one (ps_ret pe_str)) pss_nil)
    (pss_cons (ps_if (PW.pt (pw_or (pt_cmp (pc_din hu (pv 1) (pe_dget hu (pv 0) pe_str (fun _ _ => rfl)))) (pw_or1 (pt_cmpR op_eq (pe_dget2 hu (pe_dget hu (pv 0) pe_str (fun _ _ => rfl)) (pv 1) pe_str ⟨rfl, rfl, rfl, rfl⟩) pe_str (nomark _))))) (pss_one (ps_ret pe_str)) pss_nil)
    (pss_cons (ps_set (i := 2) sc_l_found.nd rfl (Or.inl rfl) (pe_call G_l_holder (hr.mono (by decide)) (by rfl) T.g_l_holder T.F_l_holder.kp T.b_l_holder .nil pass0 (pa_cons (pv 0) (pa_cons (pv 1) pa_nil))))
    (pss_cons (ps_if (PW.pt (pw_or (pt_cmpR op_isN (pv 2) pe_non (nomark _)) (pw_or1 (pt_val (pe_ix ix_list (pe_dget hu (pv 0) pe_str (fun _ _ => rfl)) (pv 2) (fun _ _ => rfl)))))) (pss_one (ps_ret pe_str)) pss_nil)
    (pss_cons (ps_dput hu (pe_dget hu (pv 0) pe_str (fun _ _ => rfl)) (pv 1) pe_bl rfl)
    (pss_cons (ps_asg (pe_callB (call_max2 rfl) (by rfl) T.n_max (by decide +kernel) (pa_cons (pe_ix ix_list (pe_dget hu (pv 0) pe_str (fun _ _ => rfl)) (pv 2) (fun _ _ => rfl)) (pa_cons (pe_op op_add pe_int (pe_bm PySem.F.plainAttrs_list PySem.F.slot_list_index PySem.F.type_list_index mt_index (pe_ix ix_list (pe_dget hu (pv 0) pe_str (fun _ _ => rfl)) (pv 2) (fun _ _ => rfl)) (pa_cons (pv 1) pa_nil))) pa_nil))) (pg_sub (pe_dget hu (pv 0) pe_str (fun _ _ => rfl)) (pv 2) set_list))
    (pss_one (ps_ret pe_non)))))))), ?_⟩
    refine ⟨_, rfl, _, _, rfl, rfl, _, rfl, ?_⟩
    by_cases c1 : 1 ≤ n
    · rw [decide_eq_true c1]
      refine iteT ?_
      refine rd_mt L rfl ?_
      refine ⟨_, _, rfl, rfl, _, rfl, ?_⟩
      by_cases c2 : n ≤ (M.top : Int)
      · rw [decide_eq_true c2]
        refine iteF ?_
        obtain ⟨k3, k4⟩ := k2 ⟨c1, c2⟩
        obtain ⟨kw, ew, qw⟩ := L.wd
        obtain ⟨ks, es, qs⟩ := L.sn
        refine ⟨_, rfl, ?_⟩
        refine rd_ms L rfl ?_
        refine ⟨A.dN, _, rfl, DGet.k (k := Sum.inl n) es, _, rfl, ?_⟩
        rw [qs.at_ n]
        by_cases c3 : M.sn n = true
        · rw [if_pos c3]
          exact iteT (iteT (k3 (.inl c3)))
        · rw [if_neg c3]
          refine iteF ?_
          refine rd_mw L rfl ?_
          refine ⟨A.dW, rfl, .inl ⟨_, .inl ew⟩, _, rfl, _, DGet.k (k := Sum.inl n) ew, ?_⟩
          rw [qw.at_ n]
          have ez : ((M.wd n).map V.str).getD (V.str "") = V.str ((M.wd n).getD "") := by cases M.wd n <;> rfl
          rw [ez]
          refine ⟨rfl, _, rfl, ?_⟩
          by_cases c4 : (M.wd n).getD "" = "paper"
          · rw [deqT c4]
            refine iteT (k3 (.inr ?_))
            cases e : M.wd n with
            | none =>
              rw [e] at c4
              exact absurd c4 (by decide +kernel)
            | some z =>
              rw [e] at c4
              rw [show z = "paper" from c4]
          · rw [deqF c4]
            refine iteF ?_
            obtain ⟨k5, k6⟩ := k4 (fun z => z.elim c3 fun q => c4 (by rw [q]; rfl))
            refine ⟨_, rfl, _, rfl, A, M, n, rfl, L, W.d6, fun hno => ?_, fun i ns e hm _ => ?_⟩
            · exact ⟨_, rfl, rfl, _, rfl, iteT (iteT (k5 hno))⟩
            · refine ⟨_, rfl, rfl, _, rfl, iteF ?_⟩
              rcases k6 i ns e hm with ⟨hg, k7⟩ | ⟨hg, k, hk, k7⟩
              · refine rd_mg1 L rfl rfl hg ⟨_, rfl, iteT k7⟩
              · refine rd_mg1 L rfl rfl hg ⟨_, rfl, iteF ?_⟩
                have hi : i < M.ly.length := (List.getElem?_eq_some_iff.mp e).1
                have hl1 : A.ys[i]? = some (A.ys[i]'(by rw [L.ll]; exact hi)) := List.getElem?_eq_getElem _
                have len := W.len i ns e
                have h4 := W.t400
                refine ⟨_, rfl, A.m, _, rfl, (by have e := DGet.k (k := Sum.inr "seen") L.mm; rw [mk_seen] at e; exact e), ?_⟩
                refine ⟨_, rfl, A.dN, _, rfl, DPut.k (k := Sum.inl n) es (small1000 (Nat.le_trans (keys_le qs.nd qs.rg) (by omega))), ?_⟩
                have L1 := L.setSn (qs.put ⟨c1, c2⟩)
                have kk1 : Keep A.foot H (upd H A.dN (.dK (putK ks (Sum.inl n) (.bl true)))) := keep_upd (.inl (lfoot_dN A))
                generalize upd H A.dN (.dK (putK ks (Sum.inl n) (.bl true))) = H1 at L1 kk1 ⊢
                have hrow := L1.each i _ _ hl1 e
                have hix : ns.idxOf n < ns.length := List.idxOf_lt_length_of_mem hm
                have hat : (ns.map V.int)[ns.idxOf n]? = some (.int n) := by
                  rw [List.getElem?_map, List.getElem?_eq_getElem hix, List.getElem_idxOf]
                  rfl
                refine rd_ml1 L1 rfl rfl hk ?_
                refine rd_my1 L1 rfl rfl hl1 ?_
                refine ⟨.inl ⟨rfl, _, SqL.of hrow⟩, _, rfl, A.ys[i]'(by rw [L.ll]; exact hi), ns.map V.int, .int n, ns.idxOf n, .int n, rfl, rfl, SqL.of hrow, rfl, flat_ints ns, hat, eqV_refl n, (fun m z' hm' e' => idx_before hm' e'), ?_⟩
                refine ⟨_, _, rfl, rfl, _, _, rfl, ?_⟩
                refine rd_mlput L1 rfl rfl (List.getElem?_eq_some_iff.mp hk).1 ?_
                have eo : ∀ v : Int, (List.map oV ({ M with sn := fun m => if m = n then true else M.sn m } : Lm).lo).set i (V.int v) = (M.lo.set i (some v)).map oV := fun v => by
                  rw [List.map_set]
                  rfl
                rw [eo]
                have L2 := L1.setLo (M.lo.set i (some (if 1 + ((ns.idxOf n : Nat) : Int) > k then 1 + ((ns.idxOf n : Nat) : Int) else k)))
                refine k7 _ (kk1.trans (keep_upd (.inl (lfoot_aO A)))) ?_
                have em : M.found i n = { M with sn := fun m => if m = n then true else M.sn m, lo := M.lo.set i (some (if 1 + ((ns.idxOf n : Nat) : Int) > k then 1 + ((ns.idxOf n : Nat) : Int) else k)) } := by
                  unfold Lm.found
                  rw [ly_at e, low_at hk]
                rw [em]
                exact L2
      · rw [decide_eq_false c2]
        exact iteT (k1 (fun z => c2 z.2))
    · rw [decide_eq_false c1]
      refine iteF ?_
      exact ⟨_, rfl, iteT (k1 (fun z => c1 z.1))⟩
end
end Nu
namespace Nu
open PySem PySem.Spec PyProof.Rows L2
theorem mem_lfoot_old {A : La} {i : Nat} {r c : Addr} (hi : i < A.ys.length) (h : c ∈ A.foot) : c ∈ ({ A with ys := A.ys.set i r } : La).foot ∨ c = A.ys[i] := by
  unfold La.foot at h ⊢
  simp only [List.mem_cons] at h ⊢
  rcases h with h | h | h | h | h | h | h
  · exact .inl (.inl h)
  · exact .inl (.inr (.inl h))
  · exact .inl (.inr (.inr (.inl h)))
  · exact .inl (.inr (.inr (.inr (.inl h))))
  · exact .inl (.inr (.inr (.inr (.inr (.inl h)))))
  · exact .inl (.inr (.inr (.inr (.inr (.inr (.inl h))))))
  · obtain ⟨j, hj, rfl⟩ := List.getElem_of_mem h
    by_cases e : i = j
    · subst e
      exact .inr rfl
    · refine .inl (.inr (.inr (.inr (.inr (.inr (.inr ?_))))))
      exact List.mem_of_getElem? (i := j) (by rw [List.getElem?_set_ne e, List.getElem?_eq_getElem hj])
theorem setw_at {M : Lm} {i k j : Nat} {n : Int} (h : ((M.ly.getD i []).take k)[j]? = some n) : (M.setw i k)[j]? = some (n, if M.sn n = true then ("paper" : Str) else "used") := by
  unfold Lm.setw
  rw [List.getElem?_map, h]
  rfl
section
variable {P : Program} {w : World} {K : PySem.W.Frag} {mg : Str → Option Value} {base : Heap} {a : Ad} {fd : Fd}
def spLSettled : Sp := fun vs H Q _ => ∃ (A : La) (M : Lm) (i : Nat) (m : Int), vs = [.ref A.m, .int (i : Int), .int m] ∧ Lw H A M ∧ WfM M ∧ Rng M ∧ i < M.ly.length ∧ i < M.lo.length ∧
  (M.lo[i]? = some none → Q (.str "NotThere") H) ∧
  ∀ k : Int, M.lo[i]? = some (some k) → 0 ≤ k ∧ (¬ (k ≤ m ∧ m ≤ ((M.ly.getD i []).length : Int)) → Q (.str "NoCount") H) ∧
    (k ≤ m → m ≤ ((M.ly.getD i []).length : Int) → ∀ (A' : La) (H' : Hp) (r : Addr) (ns' : List Int), LBeh H H' A A' (M.settle i m.toNat) → ns'.Perm ((M.ly.getD i []).drop m.toNat) → ns'.Pairwise (· ≤ ·) → H r = none → r ∉ A'.foot → H' r = some (.lst (ns'.map V.int)) → Q (.ref r) H')
theorem ok_l_settled (T : Txt K mg a fd) : FnOk P w K mg base CX0 1 a.l_settled fd.l_settled ["_law_m", "_law_desk", "_law_many"] spLSettled := by
  refine T.F_l_settled.ok sc_l_settled (fun vs H Q E h => ?_) (fun cdv A0 outer s H vs Q E hr h => ?_)
  · obtain ⟨A, M, i, m, rfl, _⟩ := h
    rfl
  · obtain ⟨A, M, i, m, rfl, L, W, R, hi, hil, k1, k2⟩ := h
    have hu := hu_of hr
    refine ⟨_, (pss_cons (ps_if (pt_cmpR op_isN (pe_ix ix_list (pe_dget hu (pv 0) pe_str (fun _ _ => rfl)) (pv 1) (fun _ _ => rfl)) pe_non (nomark _)) (pss_one (ps_ret pe_str)) pss_nil)
    (pss_cons (ps_set (i := 3) sc_l_settled.nd rfl (Or.inl rfl) (pe_ix ix_list (pe_dget hu (pv 0) pe_str (fun _ _ => rfl)) (pv 1) (fun _ _ => rfl)))
    (pss_cons (ps_if (pt_not (pt_chain op_le op_le (pe_ix ix_list (pe_dget hu (pv 0) pe_str (fun _ _ => rfl)) (pv 1) (fun _ _ => rfl)) (pv 2) (pe_callB call_len_seq (by rfl) T.n_len PySem.boot_len (pa_cons (pv 3) pa_nil)))) (pss_one (ps_ret pe_str)) pss_nil)
    (pss_cons (ps_for PassesOwn.never rfl (pi_list (pe_slice sl_list (pv 3) po_none (po_some (pv 2)))) (pg_name (i := 4) sc_l_settled.nd rfl (Or.inl rfl))
      (pss_one (ps_dput hu (pe_dget hu (pv 0) pe_str (fun _ _ => rfl)) (pv 4) (pe_ix ix_list (pe_lst (pa_cons pe_str (pa_cons pe_str pa_nil))) (pe_callTy call_int1 (by rfl) T.n_int (by decide +kernel) (pa_cons (pe_cmp (pc_din hu (pv 4) (pe_dget hu (pv 0) pe_str (fun _ _ => rfl)))) pa_nil)) (fun _ _ => rfl)) rfl)))
    (pss_cons (ps_asg (pe_lst pa_nil) (pg_sub (pe_dget hu (pv 0) pe_str (fun _ _ => rfl)) (pv 1) set_list))
    (pss_cons (ps_asg pe_non (pg_sub (pe_dget hu (pv 0) pe_str (fun _ _ => rfl)) (pv 1) set_list))
    (pss_one (ps_ret (pe_callB cr_sortedI (by rfl) T.n_sorted (by decide +kernel) (pa_cons (pe_slice sl_list (pv 3) (po_some (pv 2)) po_none) pa_nil)))))))))), ?_⟩
    have hns : M.ly[i]? = some M.ly[i] := List.getElem?_eq_getElem hi
    have hg := ly_at hns
    have hl1 : A.ys[i]? = some (A.ys[i]'(by rw [L.ll]; exact hi)) := List.getElem?_eq_getElem _
    have len := W.len i _ hns
    have h4 := W.t400
    have hlo : M.lo[i]? = some M.lo[i] := List.getElem?_eq_getElem hil
    refine rd_ml1 L rfl rfl hlo ?_
    cases ek : M.lo[i] with
    | none =>
      refine ⟨rfl, _, rfl, iteT (k1 (by rw [hlo, ek]))⟩
    | some k =>
      rw [ek] at hlo
      refine ⟨rfl, _, rfl, iteF ?_⟩
      refine rd_my1 L rfl rfl hl1 ?_
      have hrow := L.each i _ _ hl1 hns
      refine rd_ml1 L rfl rfl hlo ?_
      refine ⟨_, rfl, _, _, rfl, rfl, _, rfl, ?_⟩
      obtain ⟨c0, k3, k4⟩ := k2 k hlo
      rw [hg] at k3 k4
      by_cases c1 : k ≤ m
      · rw [decide_eq_true c1]
        refine iteT ?_
        refine ⟨_, rfl, _, _, rfl, .inl (SqL.of hrow), _, _, rfl, rfl, _, rfl, ?_⟩
        rw [List.length_map]
        by_cases c2 : m ≤ (M.ly[i].length : Int)
        · rw [decide_eq_true c2]
          refine iteF ?_
          obtain ⟨km, rfl⟩ := Int.eq_ofNat_of_zero_le (show 0 ≤ m by omega)
          have k5 := k4 c1 c2
          rw [show ((km : Int)).toNat = km from Int.toNat_natCast km] at k5
          have hkm : km ≤ M.ly[i].length := by omega
          refine ⟨_, rfl, _, rfl, _, rfl, _, _, rfl, SqL.of hrow, fun q nq => ?_⟩
          rw [cut_to, ← List.map_take]
          have L1 : Lw (upd H q (.lst ((M.ly[i].take km).map V.int))) A M := L.upd_new nq
          have qA := L.new nq
          have s1 : Same H (upd H q (.lst ((M.ly[i].take km).map V.int))) := same_upd nq
          have hq : (upd H q (.lst ((M.ly[i].take km).map V.int))) q = some (.lst ((M.ly[i].take km).map V.int)) := upd_same
          generalize upd H q (.lst ((M.ly[i].take km).map V.int)) = H1 at L1 s1 hq ⊢
          refine ⟨q, rfl, ⟨_, SqL.of hq⟩, for_list (K := K) (a := q) (xs := (M.ly[i].take km).map V.int)
            (fun j σ H' => ∃ v : Option V, σ = [some (.ref A.m), some (.int (i : Int)), some (.int (km : Int)), some (.ref (A.ys[i]'(by rw [L.ll]; exact hi))), v] ∧ Keep A.foot H1 H' ∧ Lw H' A (M.puts ((M.setw i km).take j)))
            ⟨none, rfl, Keep.refl _ _, L1⟩ (fun j σ H' _ ⟨_, _, kk, _⟩ => SqL.of (kk _ _ hq qA)) ?_ ?_⟩
          · rintro j x σ H' hj ⟨v, rfl, kk, L2⟩
            obtain ⟨n, hn, rfl⟩ := map_int_at hj
            have hz := setw_at (M := M) (i := i) (k := km) (j := j) (n := n) (by rw [hg]; exact hn)
            have b := R i _ hns n (List.mem_of_mem_take (List.mem_of_getElem? hn))
            have pr := puts_rest ((M.setw i km).take j) M
            refine ⟨(by show 2 ≤ sizeLine; decide), fun l2 n2 => ?_⟩
            have L3 : Lw (upd H' l2 (.lst [V.str "used", V.str "paper"])) A (M.puts ((M.setw i km).take j)) := L2.upd_new n2
            have kk3 : Keep A.foot H' (upd H' l2 (.lst [V.str "used", V.str "paper"])) := keep_upd (.inr n2)
            have hl2 : (upd H' l2 (.lst [V.str "used", V.str "paper"])) l2 = some (.lst [V.str "used", V.str "paper"]) := upd_same
            generalize upd H' l2 (.lst [V.str "used", V.str "paper"]) = H3 at L3 kk3 hl2 ⊢
            obtain ⟨kw, ew, qw⟩ := L3.wd
            obtain ⟨ks, es, qs⟩ := L3.sn
            refine ⟨_, rfl, ?_⟩
            refine rd_ms L3 rfl ?_
            refine ⟨A.dN, _, rfl, DGet.k (k := Sum.inl n) es, .inr ⟨_, rfl, ?_⟩⟩
            rw [qs.at_ n, pr.2.1]
            have ev : ∀ b : Bool, atI [V.str "used", V.str "paper"] (if b = true then 1 else 0) = some (V.str (if b = true then ("paper" : Str) else "used")) := fun b => by cases b <;> rfl
            refine ⟨l2, _, _, _, rfl, rfl, SqL.of hl2, ev _, ?_⟩
            have eb : (if M.sn n = true then some (V.bl true) else none).isSome = M.sn n := by cases M.sn n <;> rfl
            rw [eb]
            refine rd_mw L3 rfl ?_
            have kw400 : kw.length ≤ 400 := Nat.le_trans (keys_le qw.nd qw.rg) (by rw [pr.1]; exact h4)
            refine ⟨_, rfl, A.dW, _, rfl, DPut.k (k := Sum.inl n) ew (small1000 (by omega)), ?_⟩
            refine ⟨_, rfl, (kk.trans kk3).trans (keep_upd (.inl (lfoot_dW A))), ?_⟩
            rw [take_snoc hz, puts_snoc]
            exact L3.setW _ (qw.put _ (by rw [pr.1]; exact b))
          · rintro σ H' ⟨v, rfl, kk, L2⟩
            have el : (M.setw i km).take ((M.ly[i].take km).map V.int).length = M.setw i km := List.take_of_length_le (by
              unfold Lm.setw
              rw [hg, List.length_map, List.length_map]
              exact Nat.le_refl _)
            rw [el] at L2
            have pr := puts_rest (M.setw i km) M
            refine ⟨Nat.zero_le _, fun r nr => ?_⟩
            refine rd_myput (L2.upd_new nr) rfl rfl (by rw [L.ll]; exact hi) ?_
            rw [← List.map_set]
            have B := LBeh.newRow (d := i) L2 ((Keep.same (F := A.foot) s1).trans kk) nr (by rw [L.ll]; exact hi) []
            have hrow2 := L2.each i _ _ hl1 (by rw [pr.2.2.1]; exact hns)
            have rr : (A.ys[i]'(by rw [L.ll]; exact hi)) ≠ r := fun z => by rw [z, nr] at hrow2; cases hrow2
            have rY : (A.ys[i]'(by rw [L.ll]; exact hi)) ≠ A.aY := fun z => L.ne.aY_ys (by rw [← z]; exact List.mem_of_getElem? hl1)
            have hrow3 : (upd (upd H' r (.lst [])) A.aY (.lst ((A.ys.set i r).map V.ref))) (A.ys[i]'(by rw [L.ll]; exact hi)) = some (.lst (M.ly[i].map V.int)) := by
              rw [upd_ne rY, upd_ne rr]
              exact hrow2
            have LB := B.lw
            have kB := B.kp
            have fB := B.ff
            simp only [List.map_nil] at LB kB
            obtain ⟨A', hA'⟩ : ∃ A' : La, A' = { A with ys := A.ys.set i r } := ⟨_, rfl⟩
            have mA : A'.m = A.m := by rw [hA']
            have oA : A'.aO = A.aO := by rw [hA']
            have old : ∀ c ∈ A.foot, c ∈ A'.foot ∨ c = A.ys[i]'(by rw [L.ll]; exact hi) := by
              rw [hA']
              exact fun c hc => mem_lfoot_old (by rw [L.ll]; exact hi) hc
            rw [← hA'] at LB fB
            generalize upd (upd H' r (.lst [])) A.aY (.lst ((A.ys.set i r).map V.ref)) = H4 at LB kB hrow3 ⊢
            have hlo4 : i < (M.puts (M.setw i km)).lo.length := by rw [pr.2.2.2.2]; exact hil
            refine rd_mlput LB (by rw [mA]; rfl) rfl hlo4 ?_
            have eo : (List.map oV ({ M.puts (M.setw i km) with ly := (M.puts (M.setw i km)).ly.set i [] } : Lm).lo).set i V.non = (M.lo.set i none).map oV := by
              rw [List.map_set]
              show ((M.puts (M.setw i km)).lo.map oV).set i V.non = _
              rw [pr.2.2.2.2]
              rfl
            rw [eo]
            have L5 := LB.setLo (M.lo.set i none)
            have em : M.settle i km = { ({ M.puts (M.setw i km) with ly := (M.puts (M.setw i km)).ly.set i [] } : Lm) with lo := M.lo.set i none } := by
              show _ = { M.puts (M.setw i km) with ly := (M.puts (M.setw i km)).ly.set i [], lo := M.lo.set i none }
              unfold Lm.settle
              rw [pr.2.2.1]
            rw [← em] at L5
            have kH5 : Keep A.foot H (upd H4 A'.aO (.lst ((M.lo.set i none).map oV))) := kB.trans (keep_upd (.inl (by rw [oA]; exact lfoot_aO A)))
            have rO : (A.ys[i]'(by rw [L.ll]; exact hi)) ≠ A'.aO := fun z => L.ne.aO_ys (by rw [← oA, ← z]; exact List.mem_of_getElem? hl1)
            have hrow5 : (upd H4 A'.aO (.lst ((M.lo.set i none).map oV))) (A.ys[i]'(by rw [L.ll]; exact hi)) = some (.lst (M.ly[i].map V.int)) := by
              rw [upd_ne rO]
              exact hrow3
            generalize upd H4 A'.aO (.lst ((M.lo.set i none).map oV)) = H5 at L5 kH5 hrow5 ⊢
            refine ⟨_, rfl, _, rfl, _, rfl, _, _, rfl, SqL.of hrow5, fun u nu => ?_⟩
            rw [cut_from _ _ (by rw [List.length_map]; exact hkm), ← List.map_drop]
            have L6 := L5.upd_new (o := .lst ((M.ly[i].drop km).map V.int)) nu
            have kH6 : Keep A.foot H (upd H5 u (.lst ((M.ly[i].drop km).map V.int))) := kH5.trans (keep_upd (.inr nu))
            have hu6 : (upd H5 u (.lst ((M.ly[i].drop km).map V.int))) u = some (.lst ((M.ly[i].drop km).map V.int)) := upd_same
            have hrow6 : (upd H5 u (.lst ((M.ly[i].drop km).map V.int))) (A.ys[i]'(by rw [L.ll]; exact hi)) = some (.lst (M.ly[i].map V.int)) := by
              rw [upd_ne (fun z => by rw [z, nu] at hrow5; cases hrow5)]
              exact hrow5
            generalize upd H5 u (.lst ((M.ly[i].drop km).map V.int)) = H6 at L6 kH6 hu6 hrow6 ⊢
            refine ⟨u, _, rfl, SqL.of hu6, fun ns' p pm pw hp => ?_⟩
            have pA := L6.new hp
            refine k5 A' _ p ns' ⟨fun c u' e hc => ?_, fB, mA, L6.upd_new hp⟩ pm pw ?_ pA upd_same
            · have h1 := kH6 c u' e hc
              rw [upd_ne (fun z => by rw [z] at h1; exact absurd (h1.symm.trans hp) (by simp))]
              exact h1
            · cases e : H p with
              | none => rfl
              | some u1 =>
                refine absurd hp ?_
                by_cases d : p ∈ A.foot
                · rcases old p d with q | q
                  · obtain ⟨u2, e2⟩ := L6.has p q
                    rw [e2]
                    simp
                  · rw [q, hrow6]
                    simp
                · rw [kH6 p u1 e d]
                  simp
        · rw [decide_eq_false c2]
          exact iteT (k3 (fun z => c2 z.2))
      · rw [decide_eq_false c1]
        refine iteF ?_
        exact ⟨_, rfl, iteT (k3 (fun z => c1 z.1))⟩
end
end Nu
namespace Nu
open PySem PySem.Spec PyProof.Rows L2
inductive Deed where
  | lend (d m : Int)
  | report (d : Int) (ws : List Str)
  | back (d : Int)
  | stop (d : Int)
  | found (n : Int)
  | settle (d m : Int)
def Deed.desk : Deed → Option Int
  | .lend d _ => some d
  | .report d _ => some d
  | .back d => some d
  | .stop d => some d
  | .found _ => none
  | .settle d _ => some d
def Deed.kind : Deed → Str
  | .lend _ _ => "lend"
  | .report _ _ => "report"
  | .back _ => "back"
  | .stop _ => "stop"
  | .found _ => "found"
  | .settle _ _ => "settle"
def IntOk (n : Int) : Prop := n.natAbs.log2 < 1920
def Deed.Ok : Deed → Prop
  | .lend d m => IntOk d ∧ IntOk m
  | .report d ws => IntOk d ∧ (∀ x ∈ ws, flS (.str x) = true) ∧ ws.length ≤ 1000
  | .back d => IntOk d
  | .stop d => IntOk d
  | .found n => IntOk n
  | .settle d m => IntOk d ∧ IntOk m
/-- the deed's tuple at t; G: objects that it doesn't lie among -/
def DeedAt (H : Hp) (G : List Addr) (t : Addr) : Deed → Prop
  | .lend d m => t ∉ G ∧ H t = some (.tup [.str "lend", .int d, .int m])
  | .report d ws => t ∉ G ∧ ∃ aw, H t = some (.tup [.str "report", .int d, .ref aw]) ∧ H aw = some (.lst (ws.map V.str)) ∧ aw ∉ G
  | .back d => t ∉ G ∧ H t = some (.tup [.str "back", .int d])
  | .stop d => t ∉ G ∧ H t = some (.tup [.str "stop", .int d])
  | .found n => t ∉ G ∧ H t = some (.tup [.str "found", .int n])
  | .settle d m => t ∉ G ∧ H t = some (.tup [.str "settle", .int d, .int m])
theorem DeedAt.mono {H H' : Hp} {G G' : List Addr} {t : Addr} {D : Deed} (h : DeedAt H G t D) (k : Keep G H H') (g : ∀ c, (∃ u, H c = some u) → c ∉ G → c ∉ G') : DeedAt H' G' t D := by
  cases D with
  | report d ws =>
    obtain ⟨h1, aw, h2, h3, h4⟩ := h
    exact ⟨g _ ⟨_, h2⟩ h1, aw, k _ _ h2 h1, k _ _ h3 h4, g _ ⟨_, h3⟩ h4⟩
  | _ => exact ⟨g _ ⟨_, h.2⟩ h.1, k _ _ h.2 h.1⟩
theorem DeedAt.gen {H : Hp} {G : List Addr} {t : Addr} {D : Deed} (h : DeedAt H G t D) {d : Int} (hd : D.desk = some d) : ∃ xs, H t = some (.tup xs) ∧ atI xs 0 = some (.str D.kind) ∧ atI xs 1 = some (.int d) := by
  cases D with
  | report d ws =>
    obtain ⟨h1, aw, h2, h3, h4⟩ := h
    cases hd
    exact ⟨_, h2, rfl, rfl⟩
  | found n => cases hd
  | _ =>
    cases hd
    exact ⟨_, h.2, rfl, rfl⟩
inductive Out where
  | word (z : Str)
  | pair (f l : Int)
  | nums (ns : List Int)
  | non
def OutAt (H : Hp) (v : V) : Out → Prop
  | .word z => v = .str z
  | .pair f l => ∃ t, v = .ref t ∧ H t = some (.tup [.int f, .int l])
  | .nums ns => ∃ r, v = .ref r ∧ H r = some (.lst (ns.map V.int))
  | .non => v = .non
def OutNew (H : Hp) (G : List Addr) (v : V) : Prop := ∀ r, v = .ref r → H r = none ∧ r ∉ G
inductive StepM (M : Lm) : Deed → Out → Lm → Prop where
  | noDesk {D : Deed} {d : Int} (hd : D.desk = some d) (h : ¬ (0 ≤ d ∧ d < (M.ly.length : Int))) : StepM M D (.word "NoDesk") M
  | stopped {D : Deed} {i : Nat} (hd : D.desk = some (i : Int)) (hs : D.kind ≠ "settle") (h : M.go[i]? = some false) : StepM M D (.word "Stopped") M
  | noCount {i : Nat} {m : Int} (hg : M.go[i]? = some true) (h : m < 1) : StepM M (.lend i m) (.word "NoCount") M
  | noRoom {i : Nat} {m : Int} (hg : M.go[i]? = some true) (h : 1 ≤ m) (hf : ∀ f, ¬ FitM M m f) : StepM M (.lend i m) (.word "NoRoom") M
  | lend {i : Nat} {m f : Int} (hg : M.go[i]? = some true) (h : 1 ≤ m) (hf : LeastM M m f) : StepM M (.lend i m) (.pair f (f + m - 1)) (M.lend i f m.toNat)
  | noWord {i : Nat} {ws : List Str} (hg : M.go[i]? = some true) (h : ¬ Words ws) : StepM M (.report i ws) (.word "NoWord") M
  | short {i : Nat} {ws : List Str} (hg : M.go[i]? = some true) (h : Words ws) (hl : (M.ly.getD i []).length < ws.length) : StepM M (.report i ws) (.word "Short") M
  | report {i : Nat} {ws : List Str} (hg : M.go[i]? = some true) (h : Words ws) (hl : ws.length ≤ (M.ly.getD i []).length) : StepM M (.report i ws) (.nums ((M.ly.getD i []).take ws.length)) (M.report i ws)
  | back {i : Nat} {ns : List Int} (hg : M.go[i]? = some true) (h : ns.Perm (M.ly.getD i [])) (hs : ns.Pairwise (· ≤ ·)) : StepM M (.back i) (.nums ns) (M.back i)
  | stop {i : Nat} (hg : M.go[i]? = some true) : StepM M (.stop i) (.nums (M.ly.getD i [])) (M.stop i)
  | settleNone {i : Nat} {m : Int} (h : M.lo[i]? = some none) : StepM M (.settle i m) (.word "NotThere") M
  | settleCount {i : Nat} {m k : Int} (h : M.lo[i]? = some (some k)) (hm : ¬ (k ≤ m ∧ m ≤ ((M.ly.getD i []).length : Int))) : StepM M (.settle i m) (.word "NoCount") M
  | settle {i : Nat} {m k : Int} {ns : List Int} (h : M.lo[i]? = some (some k)) (h1 : k ≤ m) (h2 : m ≤ ((M.ly.getD i []).length : Int)) (hp : ns.Perm ((M.ly.getD i []).drop m.toNat)) (hs : ns.Pairwise (· ≤ ·)) : StepM M (.settle i m) (.nums ns) (M.settle i m.toNat)
  | noNumber {n : Int} (h : ¬ (1 ≤ n ∧ n ≤ (M.top : Int))) : StepM M (.found n) (.word "NoNumber") M
  | twice {n : Int} (h : 1 ≤ n ∧ n ≤ (M.top : Int)) (ht : M.twice n) : StepM M (.found n) (.word "Twice") M
  | notThere {n : Int} (h : 1 ≤ n ∧ n ≤ (M.top : Int)) (ht : ¬ M.twice n) (hh : (∀ (i : Nat) (ns : List Int), M.ly[i]? = some ns → n ∉ ns) ∨ ∃ (i : Nat) (ns : List Int), M.ly[i]? = some ns ∧ n ∈ ns ∧ M.go[i]? = some true) : StepM M (.found n) (.word "NotThere") M
  | found {n : Int} {i : Nat} {ns : List Int} (h : 1 ≤ n ∧ n ≤ (M.top : Int)) (ht : ¬ M.twice n) (e : M.ly[i]? = some ns) (hm : n ∈ ns) (hg : M.go[i]? = some false) : StepM M (.found n) .non (M.found i n)
structure LM (M : Lm) : Prop where
  gl : M.go.length = M.ly.length
  ll : M.lo.length = M.ly.length
  st : ∀ (i : Nat) (ns : List Int) (n : Int), M.ly[i]? = some ns → n ∈ ns → M.go[i]? = some false → ∃ k : Int, M.lo[i]? = some (some k)
  nn : ∀ (i : Nat) (k : Int), M.lo[i]? = some (some k) → 0 ≤ k
theorem LBeh.refl {H H' : Hp} {A : La} {M : Lm} (L : Lw H A M) (s : Same H H') : LBeh H H' A A M := ⟨Keep.same s, fun c hc => .inl hc, rfl, L.stay fun c _ u e => s c u e⟩
theorem Beh.refl {a : Ad} {H H' : Hp} {F : Fp} {o : Of} (O : Off a H F o) (s : Same H H') : Beh a H H' F F o := ⟨Keep.same s, fun c hc => .inl hc, rfl, O.stay fun c _ u e => s c u e⟩
theorem sne {x y : Str} (h : decide (x = y) = false := by decide +kernel) : decide (V.str x = V.str y) = false := decide_eq_false fun z => (of_decide_eq_false h) (by injection z)
section
variable {P : Program} {w : World} {K : PySem.W.Frag} {mg : Str → Option Value} {base : Heap} {a : Ad} {fd : Fd}
def spDue : Sp := fun vs H Q _ => ∃ (A : La) (M : Lm) (t : Addr) (D : Deed), vs = [.ref A.m, .ref t] ∧ Lw H A M ∧ WfM M ∧ Rng M ∧ LM M ∧ D.Ok ∧ DeedAt H A.foot t D ∧
  ∀ x M' A' H' v, StepM M D x M' → LBeh H H' A A' M' → OutAt H' v x → OutNew H A'.foot v → Q v H'
theorem ok_l_due (T : Txt K mg a fd) : FnOk P w K mg base CX0 3 a.l_due fd.l_due ["_law_m", "_law_deed_here"] spDue := by
  have G_l_lent := ok_l_lent (P := P) (w := w) (base := base) T
  have G_l_reported := ok_l_reported (P := P) (w := w) (base := base) T
  have G_l_found := ok_l_found (P := P) (w := w) (base := base) T
  have G_l_settled := ok_l_settled (P := P) (w := w) (base := base) T
  refine T.F_l_due.ok sc_l_due (fun vs H Q E h => ?_) (fun cdv A0 outer s H vs Q E hr h => ?_)
  · obtain ⟨A, M, t, D, rfl, _⟩ := h
    rfl
  · obtain ⟨A, M, t, D, rfl, L, W, R, C, hok, hD, k⟩ := h
    have hu := hu_of hr
    refine ⟨_, (pss_cons (ps_if (pt_cmpR op_eq (pe_ix ix_tup (pv 1) pe_int (fun _ _ => rfl)) pe_str (nomark _)) (pss_one (ps_ret (pe_call G_l_found (hr.mono (by decide)) (by rfl) T.g_l_found T.F_l_found.kp T.b_l_found .nil pass0 (pa_cons (pv 0) (pa_cons (pe_ix ix_tup (pv 1) pe_int (fun _ _ => rfl)) pa_nil))))) pss_nil)
    (pss_cons (ps_set (i := 2) sc_l_due.nd rfl (Or.inl rfl) (pe_ix ix_tup (pv 1) pe_int (fun _ _ => rfl)))
    (pss_cons (ps_if (pt_not (pt_chain op_le op_lt pe_int (pv 2) (pe_callB call_len_seq (by rfl) T.n_len PySem.boot_len (pa_cons (pe_dget hu (pv 0) pe_str (fun _ _ => rfl)) pa_nil)))) (pss_one (ps_ret pe_str)) pss_nil)
    (pss_cons (ps_if (pt_cmpR op_eq (pe_ix ix_tup (pv 1) pe_int (fun _ _ => rfl)) pe_str (nomark _)) (pss_one (ps_ret (pe_call G_l_settled (hr.mono (by decide)) (by rfl) T.g_l_settled T.F_l_settled.kp T.b_l_settled .nil pass0 (pa_cons (pv 0) (pa_cons (pv 2) (pa_cons (pe_ix ix_tup (pv 1) pe_int (fun _ _ => rfl)) pa_nil)))))) pss_nil)
    (pss_cons (ps_if (pt_not (pt_val (pe_ix ix_list (pe_dget hu (pv 0) pe_str (fun _ _ => rfl)) (pv 2) (fun _ _ => rfl)))) (pss_one (ps_ret pe_str)) pss_nil)
    (pss_cons (ps_if (pt_cmpR op_eq (pe_ix ix_tup (pv 1) pe_int (fun _ _ => rfl)) pe_str (nomark _)) (pss_one (ps_ret (pe_call G_l_lent (hr.mono (by decide)) (by rfl) T.g_l_lent T.F_l_lent.kp T.b_l_lent .nil pass0 (pa_cons (pv 0) (pa_cons (pv 2) (pa_cons (pe_ix ix_tup (pv 1) pe_int (fun _ _ => rfl)) pa_nil)))))) pss_nil)
    (pss_cons (ps_if (pt_cmpR op_eq (pe_ix ix_tup (pv 1) pe_int (fun _ _ => rfl)) pe_str (nomark _)) (pss_one (ps_ret (pe_call G_l_reported (hr.mono (by decide)) (by rfl) T.g_l_reported T.F_l_reported.kp T.b_l_reported .nil pass0 (pa_cons (pv 0) (pa_cons (pv 2) (pa_cons (pe_ix ix_tup (pv 1) pe_int (fun _ _ => rfl)) pa_nil)))))) pss_nil)
    (pss_cons (ps_set (i := 3) sc_l_due.nd rfl (Or.inl rfl) (pe_ix ix_list (pe_dget hu (pv 0) pe_str (fun _ _ => rfl)) (pv 2) (fun _ _ => rfl)))
    (pss_cons (ps_if (pt_cmpR op_eq (pe_ix ix_tup (pv 1) pe_int (fun _ _ => rfl)) pe_str (nomark _)) (pss_cons (ps_asg (pe_lst pa_nil) (pg_sub (pe_dget hu (pv 0) pe_str (fun _ _ => rfl)) (pv 2) set_list))
    (pss_one (ps_ret (pe_callB cr_sortedI (by rfl) T.n_sorted (by decide +kernel) (pa_cons (pv 3) pa_nil))))) pss_nil)
    (pss_cons (ps_asg pe_bl (pg_sub (pe_dget hu (pv 0) pe_str (fun _ _ => rfl)) (pv 2) set_list))
    (pss_cons (ps_asg pe_int (pg_sub (pe_dget hu (pv 0) pe_str (fun _ _ => rfl)) (pv 2) set_list))
    (pss_one (ps_ret (pe_callTy call_list_of (by rfl) T.n_list (by decide +kernel) (pa_cons (pv 3) pa_nil))))))))))))))), ?_⟩
    have d6 := W.d6
    cases hd : D.desk with
    | none =>
      cases D with
      | found n =>
        obtain ⟨hn, ht⟩ := hD
        refine ⟨_, rfl, t, _, 0, _, rfl, rfl, SqT.of ht, rfl, rfl, _, rfl, ?_⟩
        rw [deqT rfl]
        refine iteT ?_
        refine ⟨_, rfl, _, rfl, t, _, 1, _, rfl, rfl, SqT.of ht, rfl, A, M, n, rfl, L, W, fun c => ?_, fun c => ⟨fun c2 => ?_, fun c2 => ⟨fun c3 => ?_, fun i ns e hm => ?_⟩⟩⟩
        · exact k _ M A H _ (.noNumber c) (.refl L (Same.refl H)) rfl (fun r hr => by cases hr)
        · exact k _ M A H _ (.twice c c2) (.refl L (Same.refl H)) rfl (fun r hr => by cases hr)
        · exact k _ M A H _ (.notThere c c2 (.inl c3)) (.refl L (Same.refl H)) rfl (fun r hr => by cases hr)
        · have hi : i < M.go.length := by
            rw [C.gl]
            exact (List.getElem?_eq_some_iff.mp e).1
          have hgo : M.go[i]? = some M.go[i] := List.getElem?_eq_getElem hi
          cases q : M.go[i] with
          | true =>
            rw [q] at hgo
            exact .inl ⟨hgo, k _ M A H _ (.notThere c c2 (.inr ⟨i, ns, e, hm, hgo⟩)) (.refl L (Same.refl H)) rfl (fun r hr => by cases hr)⟩
          | false =>
            rw [q] at hgo
            obtain ⟨kk, hk⟩ := C.st i ns n e hm hgo
            exact .inr ⟨hgo, kk, hk, fun H' kp L' => k _ _ A H' _ (.found c c2 e hm hgo) ⟨kp, fun c hc => .inl hc, rfl, L'⟩ rfl (fun r hr => by cases hr)⟩
      | lend d m => cases hd
      | report d ws => cases hd
      | back d => cases hd
      | stop d => cases hd
      | settle d m => cases hd
    | some d =>
      obtain ⟨xs, ht, h0, h1⟩ := hD.gen hd
      have nf : ¬ D.kind = "found" := by
        cases D with
        | found n => cases hd
        | lend d m => exact (show ¬ (("lend" : Str) = "found") by decide +kernel)
        | report d ws => exact (show ¬ (("report" : Str) = "found") by decide +kernel)
        | back d => exact (show ¬ (("back" : Str) = "found") by decide +kernel)
        | stop d => exact (show ¬ (("stop" : Str) = "found") by decide +kernel)
        | settle d m => exact (show ¬ (("settle" : Str) = "found") by decide +kernel)
      refine ⟨_, rfl, t, xs, 0, _, rfl, rfl, SqT.of ht, h0, rfl, _, rfl, ?_⟩
      rw [deqF nf]
      refine iteF ?_
      refine ⟨_, rfl, t, xs, 1, _, rfl, rfl, SqT.of ht, h1, ?_⟩
      refine ⟨_, rfl, _, _, rfl, rfl, _, rfl, ?_⟩
      by_cases c0 : 0 ≤ d
      case neg =>
        rw [decide_eq_false c0]
        refine iteF ?_
        exact ⟨_, rfl, iteT (k _ M A H _ (.noDesk hd (fun z => c0 z.1)) (.refl L (Same.refl H)) rfl (fun r hr => by cases hr))⟩
      rw [decide_eq_true c0]
      refine iteT ?_
      refine rd_my L rfl ?_
      refine ⟨A.aY, _, rfl, .inl (SqL.of L.ly), _, _, rfl, rfl, _, rfl, ?_⟩
      rw [List.length_map, L.ll]
      by_cases c1 : d < (M.ly.length : Int)
      case neg =>
        rw [decide_eq_false c1]
        exact iteT (k _ M A H _ (.noDesk hd (fun z => c1 z.2)) (.refl L (Same.refl H)) rfl (fun r hr => by cases hr))
      rw [decide_eq_true c1]
      refine iteF ?_
      obtain ⟨i, rfl⟩ := Int.eq_ofNat_of_zero_le c0
      have hi : i < M.ly.length := by omega
      have hns : M.ly[i]? = some M.ly[i] := List.getElem?_eq_getElem hi
      have hg := ly_at hns
      have hil : i < M.lo.length := by rw [C.ll]; exact hi
      have hgl : i < M.go.length := by rw [C.gl]; exact hi
      have hgo : M.go[i]? = some M.go[i] := List.getElem?_eq_getElem hgl
      have hdl : i < A.ys.length := by rw [L.ll]; exact hi
      have hl1 : A.ys[i]? = some A.ys[i] := List.getElem?_eq_getElem hdl
      have hrow := L.each i _ _ hl1 hns
      refine ⟨_, rfl, t, xs, 0, _, rfl, rfl, SqT.of ht, h0, rfl, _, rfl, ?_⟩
      by_cases c2 : D.kind = "settle"
      · rw [deqT c2]
        refine iteT ?_
        cases D with
        | settle d m =>
          cases hd
          obtain ⟨hn, ht⟩ := hD
          refine ⟨_, rfl, _, rfl, _, rfl, t, _, 2, _, rfl, rfl, SqT.of ht, rfl, A, M, i, m, rfl, L, W, R, hi, hil, fun c => ?_, fun kk hk => ⟨C.nn i kk hk, fun c => ?_, fun c3 c4 A' H' r ns' B pm pw n1 n2 e => ?_⟩⟩
          · exact k _ M A H _ (.settleNone c) (.refl L (Same.refl H)) rfl (fun r hr => by cases hr)
          · exact k _ M A H _ (.settleCount hk c) (.refl L (Same.refl H)) rfl (fun r hr => by cases hr)
          · exact k _ _ A' H' _ (.settle hk c3 c4 pm pw) B ⟨r, rfl, e⟩ (fun r' hr => by cases hr; exact ⟨n1, n2⟩)
        | lend d m => exact absurd c2 (show ¬ (("lend" : Str) = "settle") by decide +kernel)
        | report d ws => exact absurd c2 (show ¬ (("report" : Str) = "settle") by decide +kernel)
        | back d => exact absurd c2 (show ¬ (("back" : Str) = "settle") by decide +kernel)
        | stop d => exact absurd c2 (show ¬ (("stop" : Str) = "settle") by decide +kernel)
        | found n => cases hd
      · rw [deqF c2]
        refine iteF ?_
        cases q : M.go[i] with
        | false =>
          rw [q] at hgo
          refine rd_mg1 L rfl rfl hgo ⟨_, rfl, iteT ?_⟩
          exact k _ M A H _ (.stopped hd c2 hgo) (.refl L (Same.refl H)) rfl (fun r hr => by cases hr)
        | true =>
          rw [q] at hgo
          refine rd_mg1 L rfl rfl hgo ⟨_, rfl, iteF ?_⟩
          cases D with
          | settle d m => exact absurd rfl c2
          | found n => cases hd
          | lend d m =>
            cases hd
            obtain ⟨hn, ht⟩ := hD
            refine ⟨_, rfl, t, _, 0, _, rfl, rfl, SqT.of ht, rfl, rfl, _, rfl, ?_⟩
            rw [deqT rfl]
            refine iteT ?_
            refine ⟨_, rfl, _, rfl, _, rfl, t, _, 2, _, rfl, rfl, SqT.of ht, rfl, A, M, i, m, rfl, L, W, hi, fun c => ?_, fun m1 hf H' s' => ?_, fun m1 f hf A' H' t' B n1 n2 e => ?_⟩
            · exact k _ M A H _ (.noCount hgo c) (.refl L (Same.refl H)) rfl (fun r hr => by cases hr)
            · exact k _ M A H' _ (.noRoom hgo m1 hf) (.refl L s') rfl (fun r hr => by cases hr)
            · exact k _ _ A' H' _ (.lend hgo m1 hf) B ⟨t', rfl, e⟩ (fun r hr => by cases hr; exact ⟨n1, n2⟩)
          | report d ws =>
            cases hd
            obtain ⟨hn, aw, ht, hw, hwn⟩ := hD
            refine ⟨_, rfl, t, _, 0, _, rfl, rfl, SqT.of ht, rfl, rfl, _, rfl, ?_⟩
            rw [sne]
            refine iteF ?_
            refine ⟨_, rfl, t, _, 0, _, rfl, rfl, SqT.of ht, rfl, rfl, _, rfl, ?_⟩
            rw [deqT rfl]
            refine iteT ?_
            refine ⟨_, rfl, _, rfl, _, rfl, t, _, 2, _, rfl, rfl, SqT.of ht, rfl, A, M, i, aw, ws, rfl, L, W, R, hi, hw, hwn, hok.2.1, hok.2.2, fun c H' s' => ?_, fun c c2 H' s' => ?_, fun c c2 A' H' r B n1 n2 e => ?_⟩
            · exact k _ M A H' _ (.noWord hgo c) (.refl L s') rfl (fun r hr => by cases hr)
            · exact k _ M A H' _ (.short hgo c c2) (.refl L s') rfl (fun r hr => by cases hr)
            · exact k _ _ A' H' _ (.report hgo c c2) B ⟨r, rfl, e⟩ (fun r' hr => by cases hr; exact ⟨n1, n2⟩)
          | back d =>
            cases hd
            obtain ⟨hn, ht⟩ := hD
            refine ⟨_, rfl, t, _, 0, _, rfl, rfl, SqT.of ht, rfl, rfl, _, rfl, ?_⟩
            rw [sne]
            refine iteF ?_
            refine ⟨_, rfl, t, _, 0, _, rfl, rfl, SqT.of ht, rfl, rfl, _, rfl, ?_⟩
            rw [sne]
            refine iteF ?_
            refine rd_my1 L rfl rfl hl1 ?_
            refine ⟨_, rfl, t, _, 0, _, rfl, rfl, SqT.of ht, rfl, rfl, _, rfl, ?_⟩
            rw [deqT rfl]
            refine iteT ?_
            refine ⟨Nat.zero_le _, fun r nr => ?_⟩
            refine rd_myput (L.upd_new nr) rfl rfl hdl ?_
            rw [← List.map_set]
            have B := LBeh.newRow (d := i) L (Keep.refl _ _) nr hdl []
            have rr : A.ys[i] ≠ r := fun z => by rw [z, nr] at hrow; cases hrow
            have rY : A.ys[i] ≠ A.aY := fun z => L.ne.aY_ys (by rw [← z]; exact List.mem_of_getElem? hl1)
            have hrow4 : (upd (upd H r (.lst [])) A.aY (.lst ((A.ys.set i r).map V.ref))) A.ys[i] = some (.lst (M.ly[i].map V.int)) := by rw [upd_ne rY, upd_ne rr]; exact hrow
            refine ⟨_, rfl, A.ys[i], _, rfl, SqL.of hrow4, fun ns' p pm pw hp => ?_⟩
            have pA := B.lw.new hp
            have fp : H p = none := by
              refine B.kp.free hp fun z => ?_
              obtain ⟨u, hu1⟩ := L.has p z
              by_cases c2 : p = A.aY
              · exact pA (by rw [c2]; exact lfoot_aY _)
              · rw [upd_ne c2] at hp
                by_cases c3 : p = r
                · rw [c3, upd_same] at hp
                  cases hp
                · rw [upd_ne c3, hu1] at hp
                  cases hp
            refine k (.nums ns') (M.back i) { A with ys := A.ys.set i r } _ _ (.back hgo (by rw [hg]; exact pm) pw) ⟨fun c u e hc => ?_, B.ff, rfl, B.lw.upd_new hp⟩ ⟨p, rfl, upd_same⟩ (fun r' hr => by cases hr; exact ⟨fp, pA⟩)
            have h1 := B.kp c u e hc
            simp only [List.map_nil] at h1
            rw [upd_ne (fun z => by rw [z] at h1; rw [h1] at hp; cases hp)]
            exact h1
          | stop d =>
            cases hd
            obtain ⟨hn, ht⟩ := hD
            refine ⟨_, rfl, t, _, 0, _, rfl, rfl, SqT.of ht, rfl, rfl, _, rfl, ?_⟩
            rw [sne]
            refine iteF ?_
            refine ⟨_, rfl, t, _, 0, _, rfl, rfl, SqT.of ht, rfl, rfl, _, rfl, ?_⟩
            rw [sne]
            refine iteF ?_
            refine rd_my1 L rfl rfl hl1 ?_
            refine ⟨_, rfl, t, _, 0, _, rfl, rfl, SqT.of ht, rfl, rfl, _, rfl, ?_⟩
            rw [sne]
            refine iteF ?_
            refine rd_mgput L rfl rfl hgl ?_
            have ego : ∀ v : Bool, (M.go.map V.bl).set i (V.bl v) = (M.go.set i v).map V.bl := fun v => by rw [List.map_set]
            rw [ego]
            have L1 := L.setGo (M.go.set i false)
            have kk1 : Keep A.foot H (upd H A.aG (.lst ((M.go.set i false).map V.bl))) := keep_upd (.inl (lfoot_aG A))
            generalize upd H A.aG (.lst ((M.go.set i false).map V.bl)) = H1 at L1 kk1 ⊢
            refine rd_mlput L1 rfl rfl hil ?_
            have elo : ∀ v : Int, (List.map oV ({ M with go := M.go.set i false } : Lm).lo).set i (V.int v) = (M.lo.set i (some v)).map oV := fun v => by
              rw [List.map_set]
              rfl
            rw [elo]
            have L2 : Lw (upd H1 A.aO (.lst ((M.lo.set i (some 0)).map oV))) A (M.stop i) := L1.setLo (M.lo.set i (some 0))
            have kk2 : Keep A.foot H (upd H1 A.aO (.lst ((M.lo.set i (some 0)).map oV))) := kk1.trans (keep_upd (.inl (lfoot_aO A)))
            generalize upd H1 A.aO (.lst ((M.lo.set i (some 0)).map oV)) = H2 at L2 kk2 ⊢
            have hrow2 := L2.each i _ _ hl1 hns
            refine ⟨_, rfl, _, _, rfl, .inl (SqL.of hrow2), fun r nr => ?_⟩
            refine k (.nums (M.ly.getD i [])) (M.stop i) A _ _ (.stop hgo) ⟨kk2.trans (keep_upd (.inr nr)), fun c hc => .inl hc, rfl, L2.upd_new nr⟩ ⟨r, rfl, by rw [hg]; exact upd_same⟩ (fun r' hr => by cases hr; exact ⟨kk2.free nr (L2.new nr), L2.new nr⟩)
end
end Nu
namespace Nu
open PySem PySem.Spec PyProof.Rows L2
def nine (a : Ad) : Nat → Addr
  | 0 => a.NoDesk
  | 1 => a.Stopped
  | 2 => a.NoRoom
  | 3 => a.NoCount
  | 4 => a.NoWord
  | 5 => a.Short
  | 6 => a.NoNumber
  | 7 => a.Twice
  | _ => a.NotThere
def words9 : List Str := ["NoDesk", "Stopped", "NoRoom", "NoCount", "NoWord", "Short", "NoNumber", "Twice", "NotThere"]
inductive StepO (o : Of) : Deed → Out → Of → Prop where
  | noDesk {D : Deed} {d : Int} (hd : D.desk = some d) (h : ¬ (0 ≤ d ∧ d < (o.sg.length : Int))) : StepO o D (.word "NoDesk") o
  | stopped {D : Deed} {i : Nat} {z : Str} (hd : D.desk = some (i : Int)) (hs : D.kind ≠ "settle") (h : o.sg[i]? = some z) (hz : z ≠ "going") : StepO o D (.word "Stopped") o
  | noCount {i : Nat} {m : Int} (hg : o.sg[i]? = some ("going" : Str)) (h : m < 1) : StepO o (.lend i m) (.word "NoCount") o
  | noRoom {i : Nat} {m : Int} (hg : o.sg[i]? = some ("going" : Str)) (h : 1 ≤ m) (hf : ∀ f, ¬ Fit o m f) : StepO o (.lend i m) (.word "NoRoom") o
  | lend {i : Nat} {m f : Int} (hg : o.sg[i]? = some ("going" : Str)) (h : 1 ≤ m) (hf : Least o m f) : StepO o (.lend i m) (.pair f (f + m - 1)) (o.lend i f m.toNat)
  | noWord {i : Nat} {ws : List Str} (hg : o.sg[i]? = some ("going" : Str)) (h : ¬ Words ws) : StepO o (.report i ws) (.word "NoWord") o
  | short {i : Nat} {ws : List Str} (hg : o.sg[i]? = some ("going" : Str)) (h : Words ws) (hl : (o.le.getD i []).length < ws.length) : StepO o (.report i ws) (.word "Short") o
  | report {i : Nat} {ws : List Str} (hg : o.sg[i]? = some ("going" : Str)) (h : Words ws) (hl : ws.length ≤ (o.le.getD i []).length) : StepO o (.report i ws) (.nums ((o.le.getD i []).take ws.length)) (o.report i ws)
  | back {i : Nat} {ns : List Int} (hg : o.sg[i]? = some ("going" : Str)) (h : ns.Perm (o.le.getD i [])) (hs : ns.Pairwise (· ≤ ·)) : StepO o (.back i) (.nums ns) (o.back i)
  | stop {i : Nat} (hg : o.sg[i]? = some ("going" : Str)) : StepO o (.stop i) (.nums (o.le.getD i [])) (o.stop i)
  | settleNone {i : Nat} {m : Int} {z : Str} (h : o.sg[i]? = some z) (hz : z ≠ "stopped") : StepO o (.settle i m) (.word "NotThere") o
  | settleCount {i : Nat} {m : Int} (h : o.sg[i]? = some ("stopped" : Str)) (hm : ¬ ((((o.least (o.le.getD i [])).length : Nat) : Int) ≤ m ∧ m ≤ ((o.le.getD i []).length : Int))) : StepO o (.settle i m) (.word "NoCount") o
  | settle {i : Nat} {m : Int} {ns : List Int} (h : o.sg[i]? = some ("stopped" : Str)) (h1 : (((o.least (o.le.getD i [])).length : Nat) : Int) ≤ m) (h2 : m ≤ ((o.le.getD i []).length : Int)) (hp : ns.Perm ((o.le.getD i []).drop m.toNat)) (hs : ns.Pairwise (· ≤ ·)) : StepO o (.settle i m) (.nums ns) (o.settle i m.toNat)
  | noNumber {n : Int} (h : ¬ (1 ≤ n ∧ n ≤ (o.top : Int))) : StepO o (.found n) (.word "NoNumber") o
  | twice {n : Int} (h : 1 ≤ n ∧ n ≤ (o.top : Int)) (ht : o.st n = "paper") : StepO o (.found n) (.word "Twice") o
  | notThere {n : Int} (h : 1 ≤ n ∧ n ≤ (o.top : Int)) (ht : ¬ o.st n = "paper") (hh : ∀ i : Nat, o.ho n = some (i : Int) → ¬ o.sg[i]? = some ("stopped" : Str)) : StepO o (.found n) (.word "NotThere") o
  | found {n : Int} {i : Nat} (h : 1 ≤ n ∧ n ≤ (o.top : Int)) (ht : ¬ o.st n = "paper") (hh : o.ho n = some (i : Int)) (hg : o.sg[i]? = some ("stopped" : Str)) : StepO o (.found n) .non (o.found i n)
theorem Beh.from {a : Ad} {H H1 H' : Hp} {F F' : Fp} {o' : Of} (s : Same H H1) (B : Beh a H1 H' F F' o') : Beh a H H' F F' o' := ⟨(Keep.same s).trans B.kp, fun c hc => (B.ff c hc).imp id fun h => s.free h, B.pp, B.of⟩
section
variable {P : Program} {w : World} {K : PySem.W.Frag} {mg : Str → Option Value} {base : Heap} {a : Ad} {fd : Fd}
def spDoes (a : Ad) : Sp := fun vs H Q E => ∃ (F : Fp) (o : Of) (t : Addr) (D : Deed), vs = [.ref F.p, .ref t] ∧ Off a H F o ∧ Wf o ∧ D.Ok ∧ DeedAt H F.foot t D ∧
  (∀ z i H', StepO o D (.word z) o → words9[i]? = some z → i < 9 → Same H H' → E (.ref (nine a i)) none H') ∧ ∀ x o' F' H' v, StepO o D x o' → (∀ z, x ≠ .word z) → Beh a H H' F F' o' → OutAt H' v x → OutNew H F'.foot v → Q v H'
theorem ok_l_does (T : Txt K mg a fd) : FnOk P w K mg base (L2.CX P w) 5 a.l_does fd.l_does ["_law_office_here", "_law_deed_here"] (spDoes a) := by
  have G_Office_lend := ok_Office_lend (P := P) (w := w) (base := base) T
  have G_Office_report := ok_Office_report (P := P) (w := w) (base := base) T
  have G_Office_back := ok_Office_back (P := P) (w := w) (base := base) T
  have G_Office_stop := ok_Office_stop (P := P) (w := w) (base := base) T
  have G_Office_found := ok_Office_found (P := P) (w := w) (base := base) T
  have G_Office_settle := ok_Office_settle (P := P) (w := w) (base := base) T
  refine T.F_l_does.okX sc_l_does (fun vs H Q E h => ?_) (fun cdv A0 outer s H vs Q E hr h => ?_)
  · obtain ⟨F, o, t, D, rfl, _⟩ := h
    rfl
  · obtain ⟨F, o, t, D, rfl, O, W, hok, hD, k1, k2⟩ := h
    have hu := hu_of hr
    refine ⟨_, (pss_cons (ps_if (pt_cmpR op_eq (pe_ix ix_tup (pv 1) pe_int (fun _ _ => rfl)) pe_str (nomark _)) (pss_one (ps_ret (pe_meth (pv 0) T.cl T.m_Office_lend G_Office_lend (hr.mono (by decide)) T.b_Office_lend .nil passU (pa_cons (pe_ix ix_tup (pv 1) pe_int (fun _ _ => rfl)) (pa_cons (pe_ix ix_tup (pv 1) pe_int (fun _ _ => rfl)) pa_nil))))) pss_nil)
    (pss_cons (ps_if (pt_cmpR op_eq (pe_ix ix_tup (pv 1) pe_int (fun _ _ => rfl)) pe_str (nomark _)) (pss_one (ps_ret (pe_meth (pv 0) T.cl T.m_Office_report G_Office_report (hr.mono (by decide)) T.b_Office_report .nil passU (pa_cons (pe_ix ix_tup (pv 1) pe_int (fun _ _ => rfl)) (pa_cons (pe_callTy call_list_of (by rfl) T.n_list (by decide +kernel) (pa_cons (pe_ix ix_tup (pv 1) pe_int (fun _ _ => rfl)) pa_nil)) pa_nil))))) pss_nil)
    (pss_cons (ps_if (pt_cmpR op_eq (pe_ix ix_tup (pv 1) pe_int (fun _ _ => rfl)) pe_str (nomark _)) (pss_one (ps_ret (pe_meth (pv 0) T.cl T.m_Office_back G_Office_back (hr.mono (by decide)) T.b_Office_back .nil passU (pa_cons (pe_ix ix_tup (pv 1) pe_int (fun _ _ => rfl)) pa_nil)))) pss_nil)
    (pss_cons (ps_if (pt_cmpR op_eq (pe_ix ix_tup (pv 1) pe_int (fun _ _ => rfl)) pe_str (nomark _)) (pss_one (ps_ret (pe_meth (pv 0) T.cl T.m_Office_stop G_Office_stop (hr.mono (by decide)) T.b_Office_stop .nil passU (pa_cons (pe_ix ix_tup (pv 1) pe_int (fun _ _ => rfl)) pa_nil)))) pss_nil)
    (pss_cons (ps_if (pt_cmpR op_eq (pe_ix ix_tup (pv 1) pe_int (fun _ _ => rfl)) pe_str (nomark _)) (pss_one (ps_ret (pe_meth (pv 0) T.cl T.m_Office_found G_Office_found (hr.mono (by decide)) T.b_Office_found .nil passU (pa_cons (pe_ix ix_tup (pv 1) pe_int (fun _ _ => rfl)) pa_nil)))) pss_nil)
    (pss_one (ps_ret (pe_meth (pv 0) T.cl T.m_Office_settle G_Office_settle (hr.mono (by decide)) T.b_Office_settle .nil passU (pa_cons (pe_ix ix_tup (pv 1) pe_int (fun _ _ => rfl)) (pa_cons (pe_ix ix_tup (pv 1) pe_int (fun _ _ => rfl)) pa_nil)))))))))), ?_⟩
    have w0 : ∀ H', StepO o D (.word "NoDesk") o → Same H H' → E (.ref a.NoDesk) none H' := fun H' st s => k1 _ 0 H' st rfl (by decide) s
    have w1 : ∀ H', StepO o D (.word "Stopped") o → Same H H' → E (.ref a.Stopped) none H' := fun H' st s => k1 _ 1 H' st rfl (by decide) s
    have w2 : ∀ H', StepO o D (.word "NoRoom") o → Same H H' → E (.ref a.NoRoom) none H' := fun H' st s => k1 _ 2 H' st rfl (by decide) s
    have w3 : ∀ H', StepO o D (.word "NoCount") o → Same H H' → E (.ref a.NoCount) none H' := fun H' st s => k1 _ 3 H' st rfl (by decide) s
    have w4 : ∀ H', StepO o D (.word "NoWord") o → Same H H' → E (.ref a.NoWord) none H' := fun H' st s => k1 _ 4 H' st rfl (by decide) s
    have w5 : ∀ H', StepO o D (.word "Short") o → Same H H' → E (.ref a.Short) none H' := fun H' st s => k1 _ 5 H' st rfl (by decide) s
    have w6 : ∀ H', StepO o D (.word "NoNumber") o → Same H H' → E (.ref a.NoNumber) none H' := fun H' st s => k1 _ 6 H' st rfl (by decide) s
    have w7 : ∀ H', StepO o D (.word "Twice") o → Same H H' → E (.ref a.Twice) none H' := fun H' st s => k1 _ 7 H' st rfl (by decide) s
    have w8 : ∀ H', StepO o D (.word "NotThere") o → Same H H' → E (.ref a.NotThere) none H' := fun H' st s => k1 _ 8 H' st rfl (by decide) s
    have sr := Same.refl H
    cases D with
    | lend d m =>
      obtain ⟨hn, ht⟩ := hD
      refine ⟨_, rfl, t, _, 0, _, rfl, rfl, SqT.of ht, rfl, rfl, _, rfl, ?_⟩
      rw [deqT rfl]
      refine iteT ?_
      refine ⟨_, rfl, F.p, F.dx, _, rfl, O.ob, ofl_m F, _, rfl, t, _, 1, _, rfl, rfl, SqT.of ht, rfl, _, rfl, t, _, 2, _, rfl, rfl, SqT.of ht, rfl, F, o, d, m, rfl, O, W, hok.1, hok.2, fun c => w0 _ (.noDesk rfl c) sr, fun i z e1 e2 => ?_⟩
      subst e1
      refine ⟨fun c => w1 _ (.stopped rfl (show ¬ (("lend" : Str) = "settle") by decide +kernel) e2 c) sr, fun cz => ?_⟩
      subst cz
      refine ⟨fun c => w3 _ (.noCount e2 c) sr, fun m1 hf H' s' => w2 _ (.noRoom e2 m1 hf) s', fun m1 f hf H' t' kp n1 n2 O' e => ?_⟩
      exact k2 _ _ F H' _ (.lend e2 m1 hf) (fun z q => by cases q) ⟨kp, fun c hc => .inl hc, rfl, O'⟩ ⟨t', rfl, e⟩ (fun r hr => by cases hr; exact ⟨n1, n2⟩)
    | report d ws =>
      obtain ⟨hn, aw, ht, hw, hwn⟩ := hD
      refine ⟨_, rfl, t, _, 0, _, rfl, rfl, SqT.of ht, rfl, rfl, _, rfl, ?_⟩
      rw [sne]
      refine iteF ?_
      refine ⟨_, rfl, t, _, 0, _, rfl, rfl, SqT.of ht, rfl, rfl, _, rfl, ?_⟩
      rw [deqT rfl]
      refine iteT ?_
      refine ⟨_, rfl, F.p, F.dx, _, rfl, O.ob, ofl_m F, _, rfl, t, _, 1, _, rfl, rfl, SqT.of ht, rfl, _, rfl, t, _, 2, _, rfl, rfl, SqT.of ht, rfl, aw, _, rfl, .inl (SqL.of hw), fun l hl => ?_⟩
      have sl : Same H (upd H l (.lst (ws.map V.str))) := same_upd hl
      refine ⟨F, o, d, l, ws, rfl, O.upd_new hl, W, hok.1, upd_same, O.new hl, fun c => w0 _ (.noDesk rfl c) sl, fun i z e1 e2 => ?_⟩
      subst e1
      refine ⟨fun c => w1 _ (.stopped rfl (show ¬ (("report" : Str) = "settle") by decide +kernel) e2 c) sl, fun cz => ?_⟩
      subst cz
      refine ⟨fun c => w4 _ (.noWord e2 c) sl, fun c => ⟨fun c2 => w5 _ (.short e2 c c2) sl, fun c2 F' H' r B e n1 n2 => ?_⟩⟩
      exact k2 _ _ F' H' _ (.report e2 c c2) (fun z q => by cases q) (B.from sl) ⟨r, rfl, e⟩ (fun r' hr => by cases hr; exact ⟨sl.free n1, n2⟩)
    | back d =>
      obtain ⟨hn, ht⟩ := hD
      refine ⟨_, rfl, t, _, 0, _, rfl, rfl, SqT.of ht, rfl, rfl, _, rfl, ?_⟩
      rw [sne]
      refine iteF ?_
      refine ⟨_, rfl, t, _, 0, _, rfl, rfl, SqT.of ht, rfl, rfl, _, rfl, ?_⟩
      rw [sne]
      refine iteF ?_
      refine ⟨_, rfl, t, _, 0, _, rfl, rfl, SqT.of ht, rfl, rfl, _, rfl, ?_⟩
      rw [deqT rfl]
      refine iteT ?_
      refine ⟨_, rfl, F.p, F.dx, _, rfl, O.ob, ofl_m F, _, rfl, t, _, 1, _, rfl, rfl, SqT.of ht, rfl, F, o, d, rfl, O, W, hok, fun c => w0 _ (.noDesk rfl c) sr, fun i z e1 e2 => ?_⟩
      subst e1
      refine ⟨fun c => w1 _ (.stopped rfl (show ¬ (("back" : Str) = "settle") by decide +kernel) e2 c) sr, fun cz => ?_⟩
      subst cz
      exact fun F' H' r ns' B pm pw e n1 n2 => k2 _ _ F' H' _ (.back e2 pm pw) (fun z q => by cases q) B ⟨r, rfl, e⟩ (fun r' hr => by cases hr; exact ⟨n1, n2⟩)
    | stop d =>
      obtain ⟨hn, ht⟩ := hD
      refine ⟨_, rfl, t, _, 0, _, rfl, rfl, SqT.of ht, rfl, rfl, _, rfl, ?_⟩
      rw [sne]
      refine iteF ?_
      refine ⟨_, rfl, t, _, 0, _, rfl, rfl, SqT.of ht, rfl, rfl, _, rfl, ?_⟩
      rw [sne]
      refine iteF ?_
      refine ⟨_, rfl, t, _, 0, _, rfl, rfl, SqT.of ht, rfl, rfl, _, rfl, ?_⟩
      rw [sne]
      refine iteF ?_
      refine ⟨_, rfl, t, _, 0, _, rfl, rfl, SqT.of ht, rfl, rfl, _, rfl, ?_⟩
      rw [deqT rfl]
      refine iteT ?_
      refine ⟨_, rfl, F.p, F.dx, _, rfl, O.ob, ofl_m F, _, rfl, t, _, 1, _, rfl, rfl, SqT.of ht, rfl, F, o, d, rfl, O, W, hok, fun c => w0 _ (.noDesk rfl c) sr, fun i z e1 e2 => ?_⟩
      subst e1
      refine ⟨fun c => w1 _ (.stopped rfl (show ¬ (("stop" : Str) = "settle") by decide +kernel) e2 c) sr, fun cz => ?_⟩
      subst cz
      exact fun H' r kp O' e n1 n2 => k2 _ _ F H' _ (.stop e2) (fun z q => by cases q) ⟨kp, fun c hc => .inl hc, rfl, O'⟩ ⟨r, rfl, e⟩ (fun r' hr => by cases hr; exact ⟨n1, n2⟩)
    | found n =>
      obtain ⟨hn, ht⟩ := hD
      refine ⟨_, rfl, t, _, 0, _, rfl, rfl, SqT.of ht, rfl, rfl, _, rfl, ?_⟩
      rw [sne]
      refine iteF ?_
      refine ⟨_, rfl, t, _, 0, _, rfl, rfl, SqT.of ht, rfl, rfl, _, rfl, ?_⟩
      rw [sne]
      refine iteF ?_
      refine ⟨_, rfl, t, _, 0, _, rfl, rfl, SqT.of ht, rfl, rfl, _, rfl, ?_⟩
      rw [sne]
      refine iteF ?_
      refine ⟨_, rfl, t, _, 0, _, rfl, rfl, SqT.of ht, rfl, rfl, _, rfl, ?_⟩
      rw [sne]
      refine iteF ?_
      refine ⟨_, rfl, t, _, 0, _, rfl, rfl, SqT.of ht, rfl, rfl, _, rfl, ?_⟩
      rw [deqT rfl]
      refine iteT ?_
      refine ⟨_, rfl, F.p, F.dx, _, rfl, O.ob, ofl_m F, _, rfl, t, _, 1, _, rfl, rfl, SqT.of ht, rfl, F, o, n, rfl, O, W, hok, fun c => w6 _ (.noNumber c) sr, fun c => ⟨fun c2 => w7 _ (.twice c c2) sr, fun c2 => ⟨fun c3 => w8 _ (.notThere c c2 c3) sr, fun i e1 e2 H' kp O' => ?_⟩⟩⟩
      exact k2 _ _ F H' _ (.found c c2 e1 e2) (fun z q => by cases q) ⟨kp, fun c hc => .inl hc, rfl, O'⟩ rfl (fun r' hr => by cases hr)
    | settle d m =>
      obtain ⟨hn, ht⟩ := hD
      refine ⟨_, rfl, t, _, 0, _, rfl, rfl, SqT.of ht, rfl, rfl, _, rfl, ?_⟩
      rw [sne]
      refine iteF ?_
      refine ⟨_, rfl, t, _, 0, _, rfl, rfl, SqT.of ht, rfl, rfl, _, rfl, ?_⟩
      rw [sne]
      refine iteF ?_
      refine ⟨_, rfl, t, _, 0, _, rfl, rfl, SqT.of ht, rfl, rfl, _, rfl, ?_⟩
      rw [sne]
      refine iteF ?_
      refine ⟨_, rfl, t, _, 0, _, rfl, rfl, SqT.of ht, rfl, rfl, _, rfl, ?_⟩
      rw [sne]
      refine iteF ?_
      refine ⟨_, rfl, t, _, 0, _, rfl, rfl, SqT.of ht, rfl, rfl, _, rfl, ?_⟩
      rw [sne]
      refine iteF ?_
      refine ⟨_, rfl, F.p, F.dx, _, rfl, O.ob, ofl_m F, _, rfl, t, _, 1, _, rfl, rfl, SqT.of ht, rfl, _, rfl, t, _, 2, _, rfl, rfl, SqT.of ht, rfl, F, o, d, m, rfl, O, W, hok.1, hok.2, fun c => w0 _ (.noDesk rfl c) sr, fun i z e1 e2 => ?_⟩
      subst e1
      refine ⟨fun c => w8 _ (.settleNone e2 c) sr, fun cz => ?_⟩
      subst cz
      refine ⟨fun c H' s' => w3 _ (.settleCount e2 c) s', fun c1 c2 F' H' r ns' B pm pw e n1 n2 => ?_⟩
      exact k2 _ _ F' H' _ (.settle e2 c1 c2 pm pw) (fun z q => by cases q) B ⟨r, rfl, e⟩ (fun r' hr => by cases hr; exact ⟨n1, n2⟩)
end
end Nu
namespace Nu
open PySem PySem.Spec PyProof.Rows L2
structure Kn (K : PySem.W.Frag) (a : Ad) (D : Addr) (i : Nat) : Prop where
  lt : i < 9
  k : ∀ j, j < 9 → PySem.W.kitOne K (.ref D) (.ref (nine a j)) = some (decide (i = j))
  o : PySem.W.kitAny K (.ref D) [.ref a.NoBox, .ref a.NoOffice, .ref a.NoWorld] = some false
  v : PySem.W.kitOne K (.ref D) (.type "ValueError") = some true
  g : PySem.W.exmOne K (.ref D) (.ref a.GapError) = some true
  c : ExcC K D
def kl (i : Nat) : List V := (List.range 9).map fun j => V.bl (decide (i = j))
theorem kl_count : ∀ i, i < 9 → ((kl i).countP fun z => eqV z (V.bl true)) = 1 := by decide
theorem kl_at {i : Nat} (h : i < 9) : (kl i)[i]? = some (V.bl true) := by
  unfold kl
  rw [List.getElem?_map, List.getElem?_range h]
  show some (V.bl (decide (i = i))) = _
  rw [decide_eq_true rfl]
theorem kl_before {i m : Nat} {z : V} (h : i < 9) (hm : m < i) (e : (kl i)[m]? = some z) : eqV z (V.bl true) = false := by
  unfold kl at e
  rw [List.getElem?_map, List.getElem?_range (by omega)] at e
  cases e
  show (decide (i = m) == true) = false
  rw [decide_eq_false (by omega)]
  rfl
theorem kl_flat (i : Nat) : (kl i).all flatV = true := by
  unfold kl
  rw [List.all_map]
  exact List.all_eq_true.mpr fun _ _ => rfl
section
variable {P : Program} {w : World} {K : PySem.W.Frag} {mg : Str → Option Value} {base : Heap} {ad : Ad} {fd : Fd}
def spTold (a : Ad) : Sp := fun vs H Q _ => ∃ (F : Fp) (o : Of) (t : Addr) (D : Deed), vs = [.ref F.p, .ref t] ∧ Off a H F o ∧ Wf o ∧ D.Ok ∧ DeedAt H F.foot t D ∧
  ∀ x o' F' H' v, StepO o D x o' → Beh a H H' F F' o' → OutAt H' v x → OutNew H F'.foot v → Q v H'
theorem ok_l_told (T : Txt K mg ad fd) (KN : ∀ i, i < 9 → Kn K ad (nine ad i) i) : FnOk P w K mg base CX0 6 ad.l_told fd.l_told ["_law_office_here", "_law_deed_here"] (spTold ad) := by
  have G_l_does := ok_l_does (P := P) (w := w) (base := base) T
  refine T.F_l_told.ok sc_l_told (fun vs H Q E h => ?_) (fun cdv A0 outer s H vs Q E hr h => ?_)
  · obtain ⟨F, o, t, D, rfl, _⟩ := h
    rfl
  · obtain ⟨F, o, t, D, rfl, O, W, hok, hD, k⟩ := h
    refine ⟨_, (pss_one (ps_try_as (i := 2) rfl rfl sc_l_told.nd rfl rfl ⟨rfl, by decide, .inl T.x_GapError.g⟩ takes0 (fun W pn xe tk _ => (pss_one (ps_ret (pe_callS G_l_does (hr.mono (by decide)) (by rfl) T.g_l_does T.F_l_does.kp T.b_l_does (fun σ => passAt tk σ) (pa_cons (pv 0) (pa_cons (pv 1) pa_nil))))))
      (fun a oe cls d pn hz hf => (pss_cons (ps_set (i := 3) sc_l_told.nd rfl (Or.inl rfl) (pe_lst (pa_cons pe_str (pa_cons pe_str (pa_cons pe_str (pa_cons pe_str (pa_cons pe_str (pa_cons pe_str (pa_cons pe_str (pa_cons pe_str (pa_cons pe_str pa_nil)))))))))))
    (pss_cons (ps_set (i := 4) sc_l_told.nd rfl (Or.inl rfl) (pe_lst (pa_cons (pe_callB (call_isG hz hf) (by rfl) T.n_isinstance (by decide +kernel) (pa_cons (pv 2) (pa_cons (pe_glob (v := .ref ad.NoDesk) (by rfl) T.x_NoDesk.g rfl) pa_nil))) (pa_cons (pe_callB (call_isG hz hf) (by rfl) T.n_isinstance (by decide +kernel) (pa_cons (pv 2) (pa_cons (pe_glob (v := .ref ad.Stopped) (by rfl) T.x_Stopped.g rfl) pa_nil))) (pa_cons (pe_callB (call_isG hz hf) (by rfl) T.n_isinstance (by decide +kernel) (pa_cons (pv 2) (pa_cons (pe_glob (v := .ref ad.NoRoom) (by rfl) T.x_NoRoom.g rfl) pa_nil))) (pa_cons (pe_callB (call_isG hz hf) (by rfl) T.n_isinstance (by decide +kernel) (pa_cons (pv 2) (pa_cons (pe_glob (v := .ref ad.NoCount) (by rfl) T.x_NoCount.g rfl) pa_nil))) pa_nil))))))
    (pss_cons (ps_set (i := 4) sc_l_told.nd rfl (Or.inl rfl) (pe_op op_cat (pv 4) (pe_lst (pa_cons (pe_callB (call_isG hz hf) (by rfl) T.n_isinstance (by decide +kernel) (pa_cons (pv 2) (pa_cons (pe_glob (v := .ref ad.NoWord) (by rfl) T.x_NoWord.g rfl) pa_nil))) (pa_cons (pe_callB (call_isG hz hf) (by rfl) T.n_isinstance (by decide +kernel) (pa_cons (pv 2) (pa_cons (pe_glob (v := .ref ad.Short) (by rfl) T.x_Short.g rfl) pa_nil))) (pa_cons (pe_callB (call_isG hz hf) (by rfl) T.n_isinstance (by decide +kernel) (pa_cons (pv 2) (pa_cons (pe_glob (v := .ref ad.NoNumber) (by rfl) T.x_NoNumber.g rfl) pa_nil))) (pa_cons (pe_callB (call_isG hz hf) (by rfl) T.n_isinstance (by decide +kernel) (pa_cons (pv 2) (pa_cons (pe_glob (v := .ref ad.Twice) (by rfl) T.x_Twice.g rfl) pa_nil))) pa_nil)))))))
    (pss_cons (ps_expr (pe_bmK (K := K) rfl PySem.F.plainAttrs_list PySem.F.slot_list_append PySem.F.type_list_append mt_append (pv 4) (pa_cons (pe_callB (call_isG hz hf) (by rfl) T.n_isinstance (by decide +kernel) (pa_cons (pv 2) (pa_cons (pe_glob (v := .ref ad.NotThere) (by rfl) T.x_NotThere.g rfl) pa_nil))) pa_nil)))
    (pss_cons (ps_if (PW.pt (pw_or (pt_cmpR op_ne (pe_bmK (K := K) rfl PySem.F.plainAttrs_list PySem.F.slot_list_count PySem.F.type_list_count mt_countF (pv 4) (pa_cons pe_bl pa_nil)) pe_int (nomark _)) (pw_or (pt_val (pe_callB (call_isGT hz hf) (by rfl) T.n_isinstance (by decide +kernel) (pa_cons (pv 2) (pa_cons (pe_tup (pa_cons (pe_glob (v := .ref ad.NoBox) (by rfl) T.x_NoBox.g rfl) (pa_cons (pe_glob (v := .ref ad.NoOffice) (by rfl) T.x_NoOffice.g rfl) (pa_cons (pe_glob (v := .ref ad.NoWorld) (by rfl) T.x_NoWorld.g rfl) pa_nil)))) pa_nil)))) (pw_or1 (pt_not (pt_val (pe_callB (call_isG hz hf) (by rfl) T.n_isinstance (by decide +kernel) (pa_cons (pv 2) (pa_cons (pe_bltn (v := .ty "ValueError") (by rfl) T.n_ValueError (by decide +kernel) rfl) pa_nil))))))))) (pss_one (ps_ret pe_str)) pss_nil)
    (pss_one (ps_ret (pe_ix (ixL_K (K := K) rfl) (pv 3) (pe_bmK (K := K) rfl PySem.F.plainAttrs_list PySem.F.slot_list_index PySem.F.type_list_index (mt_indexK (K := K) rfl) (pv 4) (pa_cons pe_bl pa_nil)) (fun _ _ => rfl)))))))))))), ?_⟩
    refine ⟨_, rfl, _, rfl, F, o, t, D, rfl, O, W, hok, hD, fun z i H1 st hz hi s1 => ?_, fun x o' F' H1 v st hx B e n => k x o' F' H1 v st B e n⟩
    have kn := KN i hi
    generalize nine ad i = c at kn ⊢
    refine ⟨true, kn.g, fun _ ex nex => ?_, fun q => by cases q⟩
    -- words
    refine ⟨(by show 9 ≤ sizeLine; decide), fun lw nlw => ?_⟩
    -- kinds
    refine ⟨_, rfl, c, rfl, rfl, kn.c, _, _, _, rfl, (fun u r => r), kn.k 0 (by decide), ?_⟩
    refine ⟨_, rfl, c, rfl, rfl, kn.c, _, _, _, rfl, (fun u r => r), kn.k 1 (by decide), ?_⟩
    refine ⟨_, rfl, c, rfl, rfl, kn.c, _, _, _, rfl, (fun u r => r), kn.k 2 (by decide), ?_⟩
    refine ⟨_, rfl, c, rfl, rfl, kn.c, _, _, _, rfl, (fun u r => r), kn.k 3 (by decide), ?_⟩
    refine ⟨(by show 4 ≤ sizeLine; decide), fun l1 n1 => ?_⟩
    refine ⟨_, rfl, ?_⟩
    refine ⟨_, rfl, c, rfl, rfl, kn.c, _, _, _, rfl, (fun u r => r), kn.k 4 (by decide), ?_⟩
    refine ⟨_, rfl, c, rfl, rfl, kn.c, _, _, _, rfl, (fun u r => r), kn.k 5 (by decide), ?_⟩
    refine ⟨_, rfl, c, rfl, rfl, kn.c, _, _, _, rfl, (fun u r => r), kn.k 6 (by decide), ?_⟩
    refine ⟨_, rfl, c, rfl, rfl, kn.c, _, _, _, rfl, (fun u r => r), kn.k 7 (by decide), ?_⟩
    refine ⟨(by show 4 ≤ sizeLine; decide), fun l2 n2 => ?_⟩
    have n12 : l1 ≠ l2 := fun q => by rw [← q, upd_same] at n2; cases n2
    refine ⟨l1, l2, _, _, rfl, rfl, by rw [upd_ne n12]; exact upd_same, upd_same, (by show 8 ≤ sizeLine; decide), fun l3 n3 => ?_⟩
    refine ⟨_, rfl, .inl ⟨rfl, _, SqL.of upd_same⟩, ?_⟩
    refine ⟨_, rfl, c, rfl, rfl, kn.c, _, _, _, rfl, (fun u r => r), kn.k 8 (by decide), ?_⟩
    refine ⟨l3, _, _, rfl, rfl, upd_same, (by show 8 < sizeLine; decide), ?_⟩
    have n01 : lw ≠ l1 := fun q => by rw [← q, upd_same] at n1; cases n1
    have n02 : lw ≠ l2 := fun q => by rw [← q, upd_ne n01, upd_same] at n2; cases n2
    have n03 : lw ≠ l3 := fun q => by rw [← q, upd_ne n02, upd_ne n01, upd_same] at n3; cases n3
    have n13 : l1 ≠ l3 := fun q => by rw [← q, upd_ne n12, upd_same] at n3; cases n3
    have n23 : l2 ≠ l3 := fun q => by rw [← q, upd_same] at n3; cases n3
    have nf : ∀ b u, H1 b = some u → b ≠ lw ∧ b ≠ l1 ∧ b ≠ l2 ∧ b ≠ l3 := fun b u e => by
      have b0 : b ≠ lw := fun q => by rw [q, nlw] at e; cases e
      have b1 : b ≠ l1 := fun q => by rw [← q, upd_ne b0, e] at n1; cases n1
      have b2 : b ≠ l2 := fun q => by rw [← q, upd_ne b1, upd_ne b0, e] at n2; cases n2
      exact ⟨b0, b1, b2, fun q => by rw [← q, upd_ne b2, upd_ne b1, upd_ne b0, e] at n3; cases n3⟩
    generalize eH : upd (upd (upd (upd (upd H1 lw _) l1 _) l2 _) l3 _) l3 _ = H5
    have hk : H5 l3 = some (.lst (kl i)) := by rw [← eH]; exact upd_same
    have hw5 : H5 lw = some (.lst (words9.map V.str)) := by rw [← eH, upd_ne n03, upd_ne n03, upd_ne n02, upd_ne n01]; exact upd_same
    have s5 : Same H1 H5 := fun b u e => by
      obtain ⟨b0, b1, b2, b3⟩ := nf b u e
      rw [← eH, upd_ne b3, upd_ne b3, upd_ne b2, upd_ne b1, upd_ne b0]
      exact e
    refine ⟨_, rfl, .inl ⟨rfl, kl i, SqL.of hk⟩, l3, kl i, _, rfl, rfl, SqL.of hk, rfl, kl_flat i, rfl, _, rfl, ?_⟩
    rw [show (!decide (V.int (((kl i).countP fun z => eqV z (V.bl true) : Nat) : Int) = V.int 1)) = false from by rw [kl_count i kn.lt]; rfl]
    refine iteF ?_
    refine ⟨_, rfl, (by show 3 ≤ sizeLine; decide), fun tp ntp => ⟨c, tp, _, _, _, rfl, rfl, kn.c, rfl, upd_same, .cons (.own _) (.cons (.own _) (.cons (.own _) .nil)), kn.o, _, rfl, iteF ?_⟩⟩
    refine ⟨_, rfl, c, rfl, rfl, kn.c, _, _, _, rfl, (fun u r => r), kn.v, _, rfl, iteF ?_⟩
    have hk6 := same_upd (o := .tup [V.ref ad.NoBox, V.ref ad.NoOffice, V.ref ad.NoWorld]) ntp _ _ hk
    have hw6 := same_upd (o := .tup [V.ref ad.NoBox, V.ref ad.NoOffice, V.ref ad.NoWorld]) ntp _ _ hw5
    refine ⟨_, rfl, _, rfl, .inl ⟨rfl, kl i, SqL.of hk6⟩, l3, kl i, .bl true, i, .bl true, rfl, rfl, SqL.of hk6, rfl, kl_flat i, kl_at kn.lt, rfl, (fun m z' hm e => kl_before kn.lt hm e), lw, _, _, V.str z, rfl, rfl, SqL.of hw6, atI_nat (by rw [List.getElem?_map, hz]; rfl), ?_⟩
    exact k (.word z) o F _ _ st (Beh.refl O ((s1.trans s5).trans (same_upd ntp))) rfl (fun r hr => by cases hr)
end
end Nu
namespace Nu
open PySem PySem.Spec PyProof.Rows L2
structure RelI (o : Of) (M : Lm) : Prop where
  ly : M.ly = o.le
  go : ∀ (i : Nat) (z : Str), o.sg[i]? = some z → M.go[i]? = some (decide (z = "going")) ∧ (z = "going" ∨ z = "stopped" ∨ (z = "settled" ∧ o.le[i]? = some []))
theorem smd_ints {H : Hp} {p q : Addr} {ns : List Int} (hp : H p = some (.lst (ns.map V.int))) (hq : H q = some (.lst (ns.map V.int))) (hl : ns.length ≤ 1000) : SmD H 2 (.ref p) (.ref q) := by
  refine .inr ⟨p, q, _, _, true, rfl, rfl, hp, hq, rfl, by rw [List.length_map]; exact hl, fun i u v e1 e2 => .inl ?_⟩
  rw [e1] at e2
  cases e2
  obtain ⟨n, _, rfl⟩ := map_int_at e1
  exact ⟨rfl, rfl⟩
theorem smd_pair {H : Hp} {n : Nat} {p q a b c d : Addr} (hp : H p = some (.lst [.ref a, .ref b])) (hq : H q = some (.lst [.ref c, .ref d])) (h1 : SmD H n (.ref a) (.ref c)) (h2 : SmD H n (.ref b) (.ref d)) : SmD H (n + 1) (.ref p) (.ref q) := by
  refine .inr ⟨p, q, _, _, true, rfl, rfl, hp, hq, rfl, (by show 2 ≤ 1000; decide), fun i u v e1 e2 => ?_⟩
  match i, e1, e2 with
  | 0, e1, e2 =>
    cases e1
    cases e2
    exact h1
  | 1, e1, e2 =>
    cases e1
    cases e2
    exact h2
  | i + 2, e1, e2 => simp at e1
end Nu
namespace Nu
open PySem PySem.Spec PyProof.Rows L2
theorem Drw.new {K : PySem.W.Frag} {H : Hp} {s sc : Addr} {ns : List Int} (D : Drw K H s sc ns) {l : Addr} {o : HO} (hl : H l = none) : Drw K (L2.upd H l o) s sc ns :=
  D.stay (Keep.same (F := []) (same_upd hl)) (by simp) (fun _ => by simp)
theorem Drw.same {K : PySem.W.Frag} {H H' : Hp} {s sc : Addr} {ns : List Int} (D : Drw K H s sc ns) (e : Same H H') : Drw K H' s sc ns :=
  D.stay (Keep.same (F := []) e) (by simp) (fun _ => by simp)
theorem rep_papers (k : Nat) : (List.replicate k [V.str "paper"]).flatten = (List.replicate k ("paper" : Str)).map V.str := by
  induction k with
  | zero => rfl
  | succ k ih =>
    rw [List.replicate_succ, List.replicate_succ, List.flatten_cons, ih]
    rfl
theorem Drw.ns {K : PySem.W.Frag} {H : Hp} {s sc l : Addr} {ns : List Int} (D : Drw K H s sc ns) (hl : H l = none) : l ∉ [s] := fun z => by
  obtain ⟨i, m, r, e, _⟩ := D.at_
  rw [List.mem_singleton.mp z, e] at hl
  cases hl
theorem Drw.over {K : PySem.W.Frag} {H H' : Hp} {s sc l : Addr} {ns : List Int} {o : HO} (D : Drw K H s sc ns) (k : Keep [s] H H') (D' : Drw K H' s sc ns) (hl : H l = none) : Drw K (L2.upd H' l o) s sc ns := by
  have nls := D.ns hl
  obtain ⟨i, m, r, e, h⟩ := D'.at_
  refine ⟨D.sq.elim .inl fun q => .inr ⟨?_, q.2⟩, i, m, r, by rw [upd_ne (fun z => nls (by rw [z]; exact List.mem_singleton.mpr rfl))]; exact e, h⟩
  have h1 := k.rd q.1 (fun z => q.2 (List.mem_singleton.mp z))
  have ne : sc ≠ l := fun z => by
    rcases q.1 with g | ⟨ob, g⟩ <;> rw [z, hl] at g <;> cases g
  rcases h1 with g | ⟨ob, g⟩
  · exact .inl (by rw [upd_ne ne]; exact g)
  · exact .inr ⟨ob, by rw [upd_ne ne]; exact g⟩
theorem at_in4 {v : Int} (h0 : 0 ≤ v) (h1 : v < 4) : ∃ x, atI [V.int 9, V.int 9, V.int 9, V.int 400] v = some (.int x) ∧ 1 ≤ x ∧ x ≤ 400 := by
  have : v = 0 ∨ v = 1 ∨ v = 2 ∨ v = 3 := by omega
  rcases this with rfl | rfl | rfl | rfl
  · exact ⟨9, rfl, by decide, by decide⟩
  · exact ⟨9, rfl, by decide, by decide⟩
  · exact ⟨9, rfl, by decide, by decide⟩
  · exact ⟨400, rfl, by decide, by decide⟩
theorem at_two {v : Int} (h0 : 0 ≤ v) (h1 : v < 2) (a b : V) : atI [a, b] v = some (if v = 0 then a else b) := by
  have : v = 0 ∨ v = 1 := by omega
  rcases this with rfl | rfl
  · rfl
  · rfl
theorem at_three {v : Int} (h0 : 0 ≤ v) (h1 : v < 3) (a b c : V) : atI [a, b, c] v = some (if v = 0 then a else if v = 1 then b else c) := by
  have : v = 0 ∨ v = 1 ∨ v = 2 := by omega
  rcases this with rfl | rfl | rfl
  · rfl
  · rfl
  · rfl
theorem at_four {v : Int} (h0 : 0 ≤ v) (h1 : v < 4) (a b c d : Str) : ∃ x, atI [V.str a, V.str b, V.str c, V.str d] v = some (.str x) ∧ (x = a ∨ x = b ∨ x = c ∨ x = d) := by
  have : v = 0 ∨ v = 1 ∨ v = 2 ∨ v = 3 := by omega
  rcases this with rfl | rfl | rfl | rfl
  · exact ⟨a, rfl, .inl rfl⟩
  · exact ⟨b, rfl, .inr (.inl rfl)⟩
  · exact ⟨c, rfl, .inr (.inr (.inl rfl))⟩
  · exact ⟨d, rfl, .inr (.inr (.inr rfl))⟩
theorem log59 {x : Int} (h0 : 0 - 10 ^ 59 ≤ x) (h1 : x < 10 ^ 59 + 1000) : x.natAbs.log2 < 1920 := by
  by_cases c : x.natAbs = 0
  · rw [c]
    decide
  · have h : x.natAbs < 2 ^ 1920 := by
      have e1 : (10 : Nat) ^ 59 + 1000 < 2 ^ 1920 := by decide +kernel
      have e2 : ((10 : Nat) ^ 59 : Int) = 10 ^ 59 := by norm_cast
      omega
    exact (Nat.log2_lt c).mpr h
theorem okw {x : Str} (h : Words [x]) : flS (.str x) = true := by
  rcases h x (List.mem_singleton.mpr rfl) with rfl | rfl
  · decide +kernel
  · decide +kernel
theorem at_three_i {v : Int} (h0 : 0 ≤ v) (h1 : v < 3) : ∃ x : Int, atI [V.int 1, V.int 200, V.int ((10 : Int) ^ (59 : Int).toNat)] v = some (.int x) ∧ 1 ≤ x ∧ x ≤ 10 ^ 59 := by
  have : v = 0 ∨ v = 1 ∨ v = 2 := by omega
  rcases this with rfl | rfl | rfl
  · exact ⟨1, rfl, by decide, by decide +kernel⟩
  · exact ⟨200, rfl, by decide, by decide +kernel⟩
  · exact ⟨10 ^ 59, rfl, by decide +kernel, Int.le_refl _⟩
theorem at_three_w {v : Int} (h0 : 0 ≤ v) (h1 : v < 3) : ∃ x : Str, atI [V.str "paper", V.str "spoilt", V.str "paper"] v = some (.str x) ∧ Words [x] := by
  have : v = 0 ∨ v = 1 ∨ v = 2 := by omega
  rcases this with rfl | rfl | rfl
  · exact ⟨"paper", rfl, fun y hy => .inl (List.mem_singleton.mp hy)⟩
  · exact ⟨"spoilt", rfl, fun y hy => .inr (List.mem_singleton.mp hy)⟩
  · exact ⟨"paper", rfl, fun y hy => .inl (List.mem_singleton.mp hy)⟩
theorem intOk59 {x : Int} (h0 : 0 - 1 - 10 ^ 59 ≤ x) (h1 : x < 10 ^ 59 + 2000) : IntOk x := by
  unfold IntOk
  by_cases c : x.natAbs = 0
  · rw [c]
    decide
  · have h : x.natAbs < 2 ^ 1920 := by
      have e1 : (10 : Nat) ^ 59 + 2000 < 2 ^ 1920 := by decide +kernel
      have e2 : ((10 : Nat) ^ 59 : Int) = 10 ^ 59 := by norm_cast
      omega
    exact (Nat.log2_lt c).mpr h
theorem intOkS {x : Int} (h0 : 0 ≤ x) (h1 : x ≤ 1000) : IntOk x := by
  obtain ⟨n, rfl⟩ := Int.eq_ofNat_of_zero_le h0
  exact log_nat (by omega)
section
variable {P : Program} {w : World} {K : PySem.W.Frag} {mg : Str → Option Value} {base : Heap} {ad : Ad} {fd : Fd}
def spWords (K : PySem.W.Frag) : Sp := fun vs H Q _ => ∃ (s sc : Addr) (ns : List Int) (m : Nat), vs = [.ref s, .int (m : Int)] ∧ Drw K H s sc ns ∧ m ≤ 900 ∧ ∀ (l : Addr) (ws : List Str) (H' : Hp), Words ws → ws.length = m → Keep [s] H H' → Drw K H' s sc ns → H l = none → H' l = some (.lst (ws.map V.str)) → Q (.ref l) H'
theorem ok_l_words (T : Txt K mg ad fd) : FnOk P w K mg base CX0 2 ad.l_words fd.l_words ["_law_state_here", "_law_many"] (spWords K) := by
  have G_l_drawn := ok_l_drawn (P := P) (w := w) (base := base) T
  refine T.F_l_words.ok sc_l_words (fun vs H Q E h => ?_) (fun cdv A0 outer s0 H vs Q E hr h => ?_)
  · obtain ⟨s, sc, ns, m, rfl, _⟩ := h
    rfl
  · obtain ⟨s, sc, ns, m, rfl, D, m1, k⟩ := h
    refine ⟨_, (pss_one (ps_ret (pe_lc (own := [("_law_k", 2)]) (g := gName 2) (by rfl) sc_l_words.nd (pi_range1 (by rfl) T.n_range (pa_cons (pv 1) pa_nil)) (blkOk_by (own := [("_law_k", 2)]) (N := ["_law_state_here", "_law_many", "_law_k"]) (sc := defScope s_l_words) (by decide +kernel)) (fun _ _ _ _ _ => pg_name (i := 2) sc_l_words.nd rfl (Or.inl rfl)) (fun _ _ _ _ _ => pts_nil) (fun _ _ _ _ _ => (pe_ix (ixL_K (K := K) rfl) (pe_lst (pa_cons pe_str (pa_cons pe_str (pa_cons pe_str pa_nil)))) (pe_call G_l_drawn (hr.mono (by decide)) (by rfl) T.g_l_drawn T.F_l_drawn.kp T.b_l_drawn .nil pass0 (pa_cons (pv 0) (pa_cons pe_int pa_nil))) (fun _ _ => rfl)))))), ?_⟩
    refine ⟨_, rfl, (m : Int), rfl, by omega, by omega, fun lw nlw => ?_⟩
    refine lc_range (lo := 0) (n := ((m : Int)).toNat) (fun i H' => Keep [s] H H' ∧ Drw K H' s sc ns ∧ ∃ ws : List Str, ws.length = i ∧ Words ws ∧ H' lw = some (.lst (ws.map V.str)))
      ⟨Keep.same (same_upd nlw), D.new nlw, [], rfl, (fun x hx => by cases hx), upd_same⟩ ?_ ?_
    · rintro i H7 hi ⟨k7, D7, ws, hwl, hww, hlw⟩
      refine ⟨wipe1 _ _ _, ?_⟩
      dsimp only [tYes]
      rw [if_pos rfl]
      refine ⟨(by show 3 ≤ sizeLine; decide), fun l2 n2 => ?_⟩
      refine ⟨_, rfl, s, sc, ns, 3, rfl, D7.new n2, by decide, by decide, fun v H8 v0 v1 k8 D9 => ?_⟩
      obtain ⟨x, hx, hxw⟩ := at_three_w v0 v1
      refine ⟨l2, _, v, _, rfl, rfl, SqL.of (k8 _ _ upd_same (D7.ns n2)), hx, ?_⟩
      have nls := D.ns nlw
      have ll2 : lw ≠ l2 := fun q => by rw [← q, hlw] at n2; cases n2
      have hlw8 : H8 lw = some (.lst (ws.map V.str)) := k8 _ _ (by rw [upd_ne ll2]; exact hlw) nls
      have kk : Keep [s] H H8 := (k7.trans (Keep.same (same_upd n2))).trans k8
      refine ⟨_, hlw8, small1000 (by rw [List.length_map]; omega), fun c u e hc => ?_, ?_, ws ++ [x], by rw [List.length_append, hwl]; rfl, fun y hy => ?_, ?_⟩
      · rw [upd_ne (fun q => by rw [q, nlw] at e; cases e)]
        exact kk c u e hc
      · exact D.over kk D9 nlw
      · rcases List.mem_append.mp hy with q | q
        · exact hww y q
        · exact hxw y q
      · rw [upd_same, List.map_append]
        rfl
    · rintro H7 ⟨k7, D7, ws, hwl, hww, hlw⟩
      exact k lw ws H7 hww (by rw [hwl]; exact Int.toNat_natCast m) k7 D7 nlw hlw
end
end Nu
namespace Nu
open PySem PySem.Spec PyProof.Rows L2
theorem gName_go {i : Nat} {x : V} {σ : L2.St} {H : Hp} {R : L2.St → Hp → Prop} (h : R (σ.set i (some x)) H) : gName i x σ H R := h
theorem seq_go {t u : TS} {D : Ends} {σ : L2.St} {H : Hp} (h : t { D with nx := u D } σ H) : tSeq t u D σ H := h
theorem next_go {D : Ends} {σ : L2.St} {H : Hp} (h : D.nx σ H) : tNext D σ H := h
theorem ifS_two {tc : TT} {tt tu : TS} {D : Ends} {σ : L2.St} {H : Hp} (R1 R0 : Hp → Prop) (hc : ∀ Q : Bool → Hp → Prop, (∀ H1, R1 H1 → Q true H1) → (∀ H1, R0 H1 → Q false H1) → tc σ H Q) (ht : ∀ H1, R1 H1 → tt D σ H1) (hf : ∀ H1, R0 H1 → tu D σ H1) : tIfS tc tt tu D σ H :=
  hc _ (fun H1 h => iteT (ht H1 h)) (fun H1 h => iteF (hf H1 h))
def Deed.Few : Deed → Prop
  | .lend d m => (0 ≤ d ∧ d ≤ 1000) ∧ 0 ≤ m ∧ m ≤ 1000
  | .report d ws => (0 ≤ d ∧ d ≤ 1000) ∧ Words ws ∧ ws.length ≤ 900
  | .back d => 0 ≤ d ∧ d ≤ 1000
  | .stop d => 0 ≤ d ∧ d ≤ 1000
  | .found n => 0 ≤ n ∧ n ≤ 1000
  | .settle d m => (0 ≤ d ∧ d ≤ 1000) ∧ 0 ≤ m ∧ m ≤ 1000
theorem few1 {d : Int} (h0 : 0 ≤ d) (h1 : d ≤ 1000) : 0 ≤ d ∧ d ≤ 1000 := ⟨h0, h1⟩
theorem few2 {d m : Int} (h0 : 0 ≤ d) (h1 : d ≤ 1000) (h2 : 0 ≤ m) (h3 : m ≤ 1000) : (0 ≤ d ∧ d ≤ 1000) ∧ 0 ≤ m ∧ m ≤ 1000 := ⟨⟨h0, h1⟩, h2, h3⟩
section
variable {P : Program} {w : World} {K : PySem.W.Frag} {mg : Str → Option Value} {base : Heap} {ad : Ad} {fd : Fd}
def spDeed (K : PySem.W.Frag) : Sp := fun vs H Q _ => ∃ (s sc : Addr) (ns : List Int) (A : La) (M : Lm) (wide : Int), vs = [.ref s, .ref A.m, .int wide] ∧ Drw K H s sc ns ∧ Lw H A M ∧ WfM M ∧ Rng M ∧ M.go.length = M.ly.length ∧ 1 ≤ M.ly.length ∧ 1 ≤ M.top ∧ 1 ≤ wide ∧ wide ≤ 900 ∧ s ∉ A.foot ∧
  ∀ t D H', Keep [s] H H' → Drw K H' s sc ns → D.Ok → D.Few → (∀ G : List Addr, (∀ c ∈ G, ∃ u, H c = some u) → DeedAt H' G t D) → Q (.ref t) H'
theorem ok_l_deed (T : Txt K mg ad fd) : FnOk P w K mg base CX0 3 ad.l_deed fd.l_deed ["_law_state_here", "_law_m", "_law_wide"] (spDeed K) := by
  have G_l_drawn := ok_l_drawn (P := P) (w := w) (base := base) T
  have G_l_words := ok_l_words (P := P) (w := w) (base := base) T
  refine T.F_l_deed.ok sc_l_deed (fun vs H Q E h => ?_) (fun cdv A0 outer s0 H vs Q E hr h => ?_)
  · obtain ⟨s, sc, ns, A, M, wide, rfl, _⟩ := h
    rfl
  · obtain ⟨s, sc, ns, A, M, wide, rfl, D, L, W, R, gl, hd1, ht1, wd1, wd2, sA, k⟩ := h
    have hu := hu_of hr
    refine ⟨_, (pss_cons (ps_set (i := 3) sc_l_deed.nd rfl (Or.inl rfl) (pe_call G_l_drawn (hr.mono (by decide)) (by rfl) T.g_l_drawn T.F_l_drawn.kp T.b_l_drawn .nil pass0 (pa_cons (pv 0) (pa_cons (pe_callB call_len_seq (by rfl) T.n_len PySem.boot_len (pa_cons (pe_dget hu (pv 1) pe_str (fun _ _ => rfl)) pa_nil)) pa_nil))))
    (pss_cons (ps_set (i := 4) sc_l_deed.nd rfl (Or.inl rfl) (pe_ix ix_list (pe_dget hu (pv 1) pe_str (fun _ _ => rfl)) (pv 3) (fun _ _ => rfl)))
    (pss_cons (ps_set (i := 5) sc_l_deed.nd rfl (Or.inl rfl) (pe_call G_l_drawn (hr.mono (by decide)) (by rfl) T.g_l_drawn T.F_l_drawn.kp T.b_l_drawn .nil pass0 (pa_cons (pv 0) (pa_cons pe_int pa_nil))))
    (pss_cons (ps_if (PW.pt (pw_and (pt_not (pt_val (pe_ix ix_list (pe_dget hu (pv 1) pe_str (fun _ _ => rfl)) (pv 3) (fun _ _ => rfl)))) (pw_and (pt_cmpR (op_neD hr.units) (pv 4) (pe_lst pa_nil) (nomark _)) (pw_and1 (pt_cmpR op_lt (pv 5) pe_int (nomark _)))))) (pss_one (ps_ret (pe_tup (pa_cons pe_str (pa_cons (pe_ix ix_list (pv 4) (pe_call G_l_drawn (hr.mono (by decide)) (by rfl) T.g_l_drawn T.F_l_drawn.kp T.b_l_drawn .nil pass0 (pa_cons (pv 0) (pa_cons (pe_callB call_len_seq (by rfl) T.n_len PySem.boot_len (pa_cons (pv 4) pa_nil)) pa_nil))) (fun _ _ => rfl)) pa_nil))))) pss_nil)
    (pss_cons (ps_if (PW.pt (pw_and (pt_not (pt_val (pe_ix ix_list (pe_dget hu (pv 1) pe_str (fun _ _ => rfl)) (pv 3) (fun _ _ => rfl)))) (pw_and1 (pt_cmpR op_lt (pv 5) pe_int (nomark _))))) (pss_one (ps_ret (pe_tup (pa_cons pe_str (pa_cons (pv 3) (pa_cons (pe_call G_l_drawn (hr.mono (by decide)) (by rfl) T.g_l_drawn T.F_l_drawn.kp T.b_l_drawn .nil pass0 (pa_cons (pv 0) (pa_cons (pe_op op_add (pe_callB call_len_seq (by rfl) T.n_len PySem.boot_len (pa_cons (pv 4) pa_nil)) pe_int) pa_nil))) pa_nil)))))) pss_nil)
    (pss_cons (ps_if (pt_cmpR op_lt (pv 5) pe_int (nomark _)) (pss_one (ps_ret (pe_tup (pa_cons pe_str (pa_cons (pv 3) (pa_cons (pe_op op_add pe_int (pe_call G_l_drawn (hr.mono (by decide)) (by rfl) T.g_l_drawn T.F_l_drawn.kp T.b_l_drawn .nil pass0 (pa_cons (pv 0) (pa_cons (pv 2) pa_nil)))) pa_nil)))))) pss_nil)
    (pss_cons (ps_if (pt_cmpR op_lt (pv 5) pe_int (nomark _)) (pss_one (ps_ret (pe_tup (pa_cons pe_str (pa_cons (pv 3) (pa_cons (pe_call G_l_words (hr.mono (by decide)) (by rfl) T.g_l_words T.F_l_words.kp T.b_l_words .nil pass0 (pa_cons (pv 0) (pa_cons (pe_call G_l_drawn (hr.mono (by decide)) (by rfl) T.g_l_drawn T.F_l_drawn.kp T.b_l_drawn .nil pass0 (pa_cons (pv 0) (pa_cons (pe_op op_add (pe_callB call_len_seq (by rfl) T.n_len PySem.boot_len (pa_cons (pv 4) pa_nil)) pe_int) pa_nil))) pa_nil))) pa_nil)))))) pss_nil)
    (pss_cons (ps_if (pt_cmpR op_eq (pv 5) pe_int (nomark _)) (pss_one (ps_ret (pe_tup (pa_cons pe_str (pa_cons (pv 3) pa_nil))))) pss_nil)
    (pss_cons (ps_if (pt_cmpR op_eq (pv 5) pe_int (nomark _)) (pss_one (ps_ret (pe_tup (pa_cons pe_str (pa_cons (pe_op op_add pe_int (pe_call G_l_drawn (hr.mono (by decide)) (by rfl) T.g_l_drawn T.F_l_drawn.kp T.b_l_drawn .nil pass0 (pa_cons (pv 0) (pa_cons (pe_dget hu (pv 1) pe_str (fun _ _ => rfl)) pa_nil)))) pa_nil))))) pss_nil)
    (pss_one (ps_ret (pe_ix ix_list (pe_lst (pa_cons (pe_tup (pa_cons pe_str (pa_cons (pv 3) pa_nil))) (pa_cons (pe_tup (pa_cons pe_str (pa_cons (pv 3) (pa_cons (pe_op op_add pe_int (pe_call G_l_drawn (hr.mono (by decide)) (by rfl) T.g_l_drawn T.F_l_drawn.kp T.b_l_drawn .nil pass0 (pa_cons (pv 0) (pa_cons (pv 2) pa_nil)))) pa_nil)))) pa_nil))) (pe_call G_l_drawn (hr.mono (by decide)) (by rfl) T.g_l_drawn T.F_l_drawn.kp T.b_l_drawn .nil pass0 (pa_cons (pv 0) (pa_cons pe_int pa_nil))) (fun _ _ => rfl))))))))))))), ?_⟩
    have d6 := W.d6
    have h4 := W.t400
    have fresh : ∀ {H' : Hp} {t : Addr}, Keep [s] H H' → Drw K H' s sc ns → H' t = none → H t = none := fun {H' t} kp D' ht => kp.free ht (D'.ns ht)
    have out : ∀ {H' : Hp} {t : Addr}, Keep [s] H H' → Drw K H' s sc ns → H' t = none → ∀ G : List Addr, (∀ c ∈ G, ∃ u, H c = some u) → t ∉ G := fun {H' t} kp D' ht G hG z => by
      obtain ⟨u, e⟩ := hG t z
      rw [fresh kp D' ht] at e
      cases e
    have Lk : ∀ {H' : Hp}, Keep [s] H H' → Lw H' A M := fun {H'} kp => L.stay fun c hc u e => kp c u e (fun z => sA (by rw [← List.mem_singleton.mp z]; exact hc))
    -- desk
    refine ⟨_, rfl, ?_⟩
    refine rd_my L rfl ?_
    refine ⟨A.aY, _, rfl, .inl (SqL.of L.ly), s, sc, ns, _, rfl, D, by rw [List.length_map, L.ll]; omega, by rw [List.length_map, L.ll]; exact Nat.lt_trans (log_nat (by omega)) (by decide), fun v1 H1 v10 v11 k1 D1 => ?_⟩
    rw [List.length_map, L.ll] at v11
    obtain ⟨d, rfl⟩ := Int.eq_ofNat_of_zero_le v10
    have hd : d < M.ly.length := by omega
    have hns : M.ly[d]? = some M.ly[d] := List.getElem?_eq_getElem hd
    have hl1 : A.ys[d]? = some (A.ys[d]'(by rw [L.ll]; exact hd)) := List.getElem?_eq_getElem _
    have len4 := W.len d _ hns
    have hgo : M.go[d]? = some (M.go[d]'(by omega)) := List.getElem?_eq_getElem _
    have dok : IntOk (d : Int) := log_nat (by omega)
    -- row
    refine rd_my1 (Lk k1) rfl rfl hl1 ?_
    -- way
    refine ⟨_, rfl, s, sc, ns, 10, rfl, D1, by decide, by decide, fun way H2 w0 w1 k2 D2 => ?_⟩
    have k12 := k1.trans k2
    have L2' := Lk k12
    have hrow2 := L2'.each d _ _ hl1 hns
    have rlog : (((M.ly[d].length : Nat) : Int) + 1).natAbs.log2 < 9000 := by
      rw [show ((M.ly[d].length : Nat) : Int) + 1 = ((M.ly[d].length + 1 : Nat) : Int) by omega]
      exact Nat.lt_trans (log_nat (by omega)) (by decide)
    have wlog : wide.natAbs.log2 < 9000 := by
      have := intOkS (x := wide) (by omega) (by omega)
      unfold IntOk at this
      omega
    -- a rest
    refine gName_go ?_
    dsimp only
    refine seq_go ?_
    refine ifS_two (fun H3 => M.ly[d] ≠ [] ∧ Same H2 H3) (fun H3 => Same H2 H3) (fun Q' qt qf => ?_) (fun H3 e3 => ?_) (fun H3 s3 => ?_)
    · refine rd_mg1 L2' rfl rfl hgo ⟨_, rfl, ?_⟩
      cases M.go[d]'(by omega) with
      | true => exact iteF (qf _ (Same.refl _))
      | false =>
        refine iteT ?_
        refine ⟨_, rfl, Nat.zero_le _, fun e ne => ?_⟩
        have e2 : (upd H2 e (.lst [])) (A.ys[d]'(by rw [L.ll]; exact hd)) = some (.lst (M.ly[d].map V.int)) := same_upd ne _ _ hrow2
        refine ne_nil e2 upd_same (fun x hx => ?_) ⟨_, rfl, ?_⟩
        · obtain ⟨y, _, rfl⟩ := List.mem_map.mp hx
          rfl
        · by_cases c : M.ly[d] = []
          · rw [c]
            exact iteF (qf _ (same_upd ne))
          · have eb : (!(M.ly[d].map V.int).isEmpty) = true := by
              cases q : M.ly[d] with
              | nil => exact absurd q c
              | cons x r => rfl
            rw [eb]
            refine iteT ?_
            refine ⟨_, rfl, _, _, rfl, rfl, _, rfl, ?_⟩
            by_cases c2 : way < 4
            · rw [decide_eq_true c2]
              exact qt _ ⟨c, same_upd ne⟩
            · rw [decide_eq_false c2]
              exact qf _ (same_upd ne)
    · -- found
      obtain ⟨rn, s3⟩ := e3
      have D3 := D2.same s3
      have hrow3 := s3 _ _ hrow2
      have k3 : Keep [s] H H3 := k12.trans (Keep.same s3)
      have rpos : 1 ≤ M.ly[d].length := by
        cases q : M.ly[d] with
        | nil => exact absurd q rn
        | cons x r => simp
      refine ⟨_, rfl, _, rfl, _, rfl, _, _, rfl, .inl (SqL.of hrow3), s, sc, ns, _, rfl, D3, by rw [List.length_map]; omega, by rw [List.length_map]; exact Nat.lt_trans (log_nat (by omega)) (by decide), fun v4 H4 a0 a1 k4 D4 => ?_⟩
      rw [List.length_map] at a1
      obtain ⟨j, rfl⟩ := Int.eq_ofNat_of_zero_le a0
      have hj : j < M.ly[d].length := by omega
      have hjr : M.ly[d][j]? = some M.ly[d][j] := List.getElem?_eq_getElem hj
      have hrow4 := (Lk (k3.trans k4)).each d _ _ hl1 hns
      refine ⟨_, _, _, _, rfl, rfl, SqL.of hrow4, atI_nat (by rw [List.getElem?_map, hjr]; rfl), ?_⟩
      refine ⟨(by show 2 ≤ sizeLine; decide), fun t nt => ?_⟩
      have b := R d _ hns _ (List.mem_of_getElem? hjr)
      exact k t (.found M.ly[d][j]) _ ((k3.trans k4).trans (Keep.same (same_upd nt))) (D4.new nt) (intOkS (by omega) (by omega)) (by first | exact few1 (by omega) (by omega) | exact few2 (by omega) (by omega) (by omega) (by omega)) fun G hG => ⟨out (k3.trans k4) D4 nt G hG, upd_same⟩
    · have D3 := D2.same s3
      have k3 : Keep [s] H H3 := k12.trans (Keep.same s3)
      have L3 := Lk k3
      have hrow3 := s3 _ _ hrow2
      have many : ∀ (σ : L2.St) (Q' : VK), σ[0]? = some (some (.ref s)) → σ[4]? = some (some (.ref (A.ys[d]'(by rw [L.ll]; exact hd)))) →
          (∀ v H4, 0 ≤ v → v < ((M.ly[d].length : Nat) : Int) + 1 → Keep [s] H3 H4 → Drw K H4 s sc ns → Q' (.int v) H4) → True := fun _ _ _ _ _ => True.intro
      -- settle
      refine next_go ?_
      dsimp only
      refine seq_go ?_
      refine ifS_two (fun H4 => H4 = H3) (fun H4 => H4 = H3) (fun Q' qt qf => ?_) (fun H4 e => ?_) (fun H4 e => ?_)
      · refine rd_mg1 L3 rfl rfl hgo ⟨_, rfl, ?_⟩
        cases M.go[d]'(by omega) with
        | true => exact iteF (qf _ rfl)
        | false =>
          refine iteT ?_
          refine ⟨_, rfl, _, _, rfl, rfl, _, rfl, ?_⟩
          by_cases c2 : way < 7
          · rw [decide_eq_true c2]
            exact qt _ rfl
          · rw [decide_eq_false c2]
            exact qf _ rfl
      · subst e
        refine ⟨_, rfl, _, rfl, _, rfl, _, _, rfl, .inl (SqL.of hrow3), _, _, rfl, rfl, s, sc, ns, _, rfl, D3, by rw [List.length_map]; omega, by rw [List.length_map]; exact rlog, fun v4 H5 a0 a1 k4 D4 => ?_⟩
        rw [List.length_map] at a1
        refine ⟨(by show 3 ≤ sizeLine; decide), fun t nt => ?_⟩
        exact k t (.settle d v4) _ ((k3.trans k4).trans (Keep.same (same_upd nt))) (D4.new nt) ⟨dok, intOkS (by omega) (by omega)⟩ (by first | exact few1 (by omega) (by omega) | exact few2 (by omega) (by omega) (by omega) (by omega)) fun G hG => ⟨out (k3.trans k4) D4 nt G hG, upd_same⟩
      · subst e
        refine ⟨_, rfl, _, _, rfl, rfl, _, rfl, ?_⟩
        by_cases c4 : way < 4
        · rw [decide_eq_true c4]
          refine iteT ?_
          refine ⟨_, rfl, _, rfl, _, rfl, s, sc, ns, wide, rfl, D3, wd1, wlog, fun v4 H5 a0 a1 k4 D4 => ?_⟩
          refine ⟨_, _, rfl, rfl, ?_⟩
          refine ⟨(by show 3 ≤ sizeLine; decide), fun t nt => ?_⟩
          exact k t (.lend d (1 + v4)) _ ((k3.trans k4).trans (Keep.same (same_upd nt))) (D4.new nt) ⟨dok, intOkS (by omega) (by omega)⟩ (by first | exact few1 (by omega) (by omega) | exact few2 (by omega) (by omega) (by omega) (by omega)) fun G hG => ⟨out (k3.trans k4) D4 nt G hG, upd_same⟩
        · rw [decide_eq_false c4]
          refine iteF ?_
          refine ⟨_, rfl, _, _, rfl, rfl, _, rfl, ?_⟩
          by_cases c7 : way < 7
          · rw [decide_eq_true c7]
            refine iteT ?_
            refine ⟨_, rfl, _, rfl, _, rfl, _, rfl, _, _, rfl, .inl (SqL.of hrow3), _, _, rfl, rfl, s, sc, ns, _, rfl, D3, by rw [List.length_map]; omega, by rw [List.length_map]; exact rlog, fun v4 H5 a0 a1 k4 D4 => ?_⟩
            rw [List.length_map] at a1
            obtain ⟨nw, rfl⟩ := Int.eq_ofNat_of_zero_le a0
            refine ⟨s, sc, ns, nw, rfl, D4, by omega, fun lw ws H6 hww hwl k6 D6 nlw hlw => ?_⟩
            refine ⟨(by show 3 ≤ sizeLine; decide), fun t nt => ?_⟩
            have k36 := (k3.trans k4).trans k6
            refine k t (.report d ws) _ (k36.trans (Keep.same (same_upd nt))) (D6.new nt) ⟨dok, fun x hx => okw (fun y hy => by rw [List.mem_singleton.mp hy]; exact hww x hx), by omega⟩ ⟨⟨by omega, by omega⟩, hww, by omega⟩ fun G hG => ⟨out k36 D6 nt G hG, lw, upd_same, same_upd nt _ _ hlw, fun z => ?_⟩
            obtain ⟨u, e⟩ := hG lw z
            have e4 := (k3.trans k4) lw u e (D4.ns nlw)
            rw [nlw] at e4
            cases e4
          · rw [decide_eq_false c7]
            refine iteF ?_
            refine ⟨_, rfl, rfl, _, rfl, ?_⟩
            by_cases c8 : way = 7
            · rw [show decide (V.int way = V.int 7) = true from decide_eq_true (by rw [c8])]
              refine iteT ?_
              refine ⟨_, rfl, (by show 2 ≤ sizeLine; decide), fun t nt => ?_⟩
              exact k t (.back d) _ (k3.trans (Keep.same (same_upd nt))) (D3.new nt) dok (by first | exact few1 (by omega) (by omega) | exact few2 (by omega) (by omega) (by omega) (by omega)) fun G hG => ⟨out k3 D3 nt G hG, upd_same⟩
            · rw [show decide (V.int way = V.int 7) = false from decide_eq_false (fun z => c8 (by injection z))]
              refine iteF ?_
              refine ⟨_, rfl, rfl, _, rfl, ?_⟩
              by_cases c9 : way = 8
              · rw [show decide (V.int way = V.int 8) = true from decide_eq_true (by rw [c9])]
                refine iteT ?_
                refine ⟨_, rfl, ?_⟩
                refine rd_mt L3 rfl ?_
                refine ⟨s, sc, ns, _, rfl, D3, by omega, Nat.lt_trans (log_nat (by omega)) (by decide), fun v4 H5 a0 a1 k4 D4 => ?_⟩
                refine ⟨_, _, rfl, rfl, ?_⟩
                refine ⟨(by show 2 ≤ sizeLine; decide), fun t nt => ?_⟩
                exact k t (.found (1 + v4)) _ ((k3.trans k4).trans (Keep.same (same_upd nt))) (D4.new nt) (intOkS (by omega) (by omega)) (by first | exact few1 (by omega) (by omega) | exact few2 (by omega) (by omega) (by omega) (by omega)) fun G hG => ⟨out (k3.trans k4) D4 nt G hG, upd_same⟩
              · rw [show decide (V.int way = V.int 8) = false from decide_eq_false (fun z => c9 (by injection z))]
                refine iteF ?_
                refine ⟨_, rfl, (by show 2 ≤ sizeLine; decide), fun t1 nt1 => ?_⟩
                have D4 := D3.new (o := .tup [V.str "stop", V.int (d : Int)]) nt1
                refine ⟨_, rfl, _, rfl, _, rfl, s, sc, ns, wide, rfl, D4, wd1, wlog, fun v4 H5 a0 a1 k4 D5 => ?_⟩
                refine ⟨_, _, rfl, rfl, ?_⟩
                refine ⟨(by show 3 ≤ sizeLine; decide), fun t2 nt2 => ?_⟩
                refine ⟨(by show 2 ≤ sizeLine; decide), fun l3 n3 => ?_⟩
                have t1s := D3.ns nt1
                have h1 : H5 t1 = some (.tup [V.str "stop", V.int (d : Int)]) := k4 _ _ upd_same t1s
                have n12 : t1 ≠ t2 := fun q => by rw [← q, h1] at nt2; cases nt2
                have n13 : t1 ≠ l3 := fun q => by rw [← q, upd_ne n12, h1] at n3; cases n3
                have n23 : t2 ≠ l3 := fun q => by rw [← q, upd_same] at n3; cases n3
                have kB : Keep [s] H H5 := (k3.trans (Keep.same (same_upd nt1))).trans k4
                have D6 := D5.new (o := .tup [V.str "lend", V.int (d : Int), V.int (1 + v4)]) nt2
                have D7 := D6.new (o := .lst [V.ref t1, V.ref t2]) n3
                have kC : Keep [s] H (upd (upd H5 t2 (.tup [V.str "lend", V.int (d : Int), V.int (1 + v4)])) l3 (.lst [V.ref t1, V.ref t2])) := kB.trans (Keep.same ((same_upd nt2).trans (same_upd n3)))
                have l3s := D6.ns n3
                refine ⟨_, rfl, s, sc, ns, 2, rfl, D7, by decide, by decide, fun v6 H8 b0 b1 k8 D8 => ?_⟩
                refine ⟨l3, _, v6, _, rfl, rfl, SqL.of (k8 _ _ upd_same l3s), at_two b0 b1 _ _, ?_⟩
                have kD := kC.trans k8
                have o1 : ∀ G : List Addr, (∀ c ∈ G, ∃ u, H c = some u) → t1 ∉ G := out k3 D3 nt1
                have o2 : ∀ G : List Addr, (∀ c ∈ G, ∃ u, H c = some u) → t2 ∉ G := out kB D5 nt2
                by_cases c : v6 = 0
                · rw [if_pos c]
                  refine k t1 (.stop d) H8 kD D8 dok (by first | exact few1 (by omega) (by omega) | exact few2 (by omega) (by omega) (by omega) (by omega)) fun G hG => ⟨o1 G hG, k8 _ _ ?_ t1s⟩
                  rw [upd_ne n13, upd_ne n12]
                  exact h1
                · rw [if_neg c]
                  refine k t2 (.lend d (1 + v4)) H8 kD D8 ⟨dok, intOkS (by omega) (by omega)⟩ (by first | exact few1 (by omega) (by omega) | exact few2 (by omega) (by omega) (by omega) (by omega)) fun G hG => ⟨o2 G hG, k8 _ _ ?_ (D5.ns nt2)⟩
                  rw [upd_ne n23]
                  exact upd_same
end
end Nu
namespace Nu
open PySem PySem.Spec PyProof.Rows L2
def UsedW (w : Str) : Prop := w = "paper" ∨ w = "spoilt" ∨ w = "used"
/-- how a desk's stage, whether it goes on, how much of its rest is used and how much lies there go together -/
def StD (z : Str) (g : Bool) (l : Option Int) (n : Nat) : Prop := (z = "going" ∧ g = true ∧ l = none) ∨ (z = "stopped" ∧ g = false ∧ ∃ k : Nat, l = some (k : Int) ∧ k ≤ n) ∨ (z = "settled" ∧ g = false ∧ l = none ∧ n = 0)
/-- the state of the j-th number of a desk -/
def StN (l : Option Int) (s : Bool) (j : Nat) : Str := match l with
  | none => "open"
  | some k => if s = true then "paper" else if (j : Int) < k then "used" else "rest"
structure Rel (o : Of) (M : Lm) : Prop where
  tp : M.top = o.top
  ly : M.ly = o.le
  sg : ∀ (i : Nat) (z : Str), o.sg[i]? = some z → ∃ g l ns, M.go[i]? = some g ∧ M.lo[i]? = some l ∧ o.le[i]? = some ns ∧ StD z g l ns.length
  gl : M.go.length = o.sg.length
  ll : M.lo.length = o.sg.length
  wd : ∀ (n : Int) (w : Str), M.wd n = some w → o.st n = w ∧ o.ho n = none ∧ UsedW w
  at_ : ∀ (i : Nat) (ns : List Int) (l : Option Int) (j : Nat) (n : Int), o.le[i]? = some ns → M.lo[i]? = some l → ns[j]? = some n → M.wd n = none ∧ o.st n = StN l (M.sn n) j
  fr : ∀ n : Int, 1 ≤ n → n ≤ (o.top : Int) → M.wd n = none → o.ho n = none → o.st n = "free"
  sn : ∀ n : Int, M.sn n = true → M.wd n = some ("paper" : Str) ∨ ∃ (i : Nat) (ns : List Int) (j : Nat) (k : Int), o.le[i]? = some ns ∧ ns[j]? = some n ∧ M.lo[i]? = some (some k) ∧ (j : Int) < k
theorem usedW_nf {w : Str} (h : UsedW w) : ¬ w = "free" := by
  rcases h with rfl | rfl | rfl <;> decide +kernel
theorem stN_nf (l : Option Int) (s : Bool) (j : Nat) : ¬ StN l s j = "free" := by
  cases l with
  | none => exact (show ¬ (("open" : Str) = "free") by decide +kernel)
  | some k =>
    show ¬ ((if s = true then ("paper" : Str) else if (j : Int) < k then "used" else "rest") = "free")
    by_cases c : s = true
    · rw [if_pos c]
      decide +kernel
    · rw [if_neg c]
      by_cases c2 : (j : Int) < k
      · rw [if_pos c2]
        decide +kernel
      · rw [if_neg c2]
        decide +kernel
theorem row_uniq {o : Of} (W : Wf o) {i j : Nat} {a b : List Int} {n : Int} (h1 : o.le[i]? = some a) (h2 : o.le[j]? = some b) (ha : n ∈ a) (hb : n ∈ b) : i = j := by
  have e1 := ((W.own i a h1).2 n ha).2.2
  have e2 := ((W.own j b h2).2 n hb).2.2
  rw [e1] at e2
  have := Option.some.inj e2
  omega
theorem ix_uniq {l : List Int} (h : l.Nodup) {i j : Nat} {x : Int} (h1 : l[i]? = some x) (h2 : l[j]? = some x) : i = j := (List.getElem?_inj (List.getElem?_eq_some_iff.mp h1).1 h).mp (h1.trans h2.symm)
section
variable {o : Of} {M : Lm} (R : Rel o M) (W : Wf o)
include R W
theorem Rel.low (i : Nat) {ns : List Int} (h : o.le[i]? = some ns) : ∃ l, M.lo[i]? = some l := by
  have hi := (List.getElem?_eq_some_iff.mp h).1
  have : i < M.lo.length := by rw [R.ll, W.sl]; exact hi
  exact ⟨_, List.getElem?_eq_getElem this⟩
theorem Rel.hold {n d : Int} (h : o.ho n = some d) : ∃ (i : Nat) (ns : List Int) (l : Option Int) (j : Nat), d = (i : Int) ∧ o.le[i]? = some ns ∧ M.lo[i]? = some l ∧ ns[j]? = some n ∧ n ∈ ns := by
  obtain ⟨ns, d0, hns, hm⟩ := W.hol n d h
  obtain ⟨i, rfl⟩ := Int.eq_ofNat_of_zero_le d0
  rw [Int.toNat_natCast] at hns
  obtain ⟨l, hl⟩ := R.low W i hns
  obtain ⟨j, hj, e⟩ := List.getElem_of_mem hm
  exact ⟨i, ns, l, j, rfl, hns, hl, by rw [List.getElem?_eq_getElem hj, e], hm⟩
theorem Rel.taken {n : Int} (h1 : 1 ≤ n) (h2 : n ≤ (o.top : Int)) : o.st n = "free" ↔ ¬ M.taken n := by
  constructor
  · rintro e (c | ⟨i, ns, h, hn⟩)
    · cases q : M.wd n with
      | none => rw [q] at c; cases c
      | some w =>
        obtain ⟨a, _, b⟩ := R.wd n w q
        exact usedW_nf b (by rw [← a]; exact e)
    · rw [R.ly] at h
      obtain ⟨l, hl⟩ := R.low W i h
      obtain ⟨j, hj, q⟩ := List.getElem_of_mem hn
      have := (R.at_ i ns l j n h hl (by rw [List.getElem?_eq_getElem hj, q])).2
      exact stN_nf l (M.sn n) j (by rw [← this]; exact e)
  · intro c
    have hw : M.wd n = none := by
      cases q : M.wd n with
      | none => rfl
      | some w => exact absurd (.inl (by rw [q]; rfl)) c
    refine R.fr n h1 h2 hw ?_
    cases q : o.ho n with
    | none => rfl
    | some d =>
      obtain ⟨i, ns, l, j, _, h, _, _, hm⟩ := R.hold W q
      exact absurd (.inr ⟨i, ns, by rw [R.ly]; exact h, hm⟩) c
theorem Rel.fit (m f : Int) : FitM M m f ↔ Fit o m f := by
  unfold FitM Fit
  rw [R.tp]
  constructor
  · rintro ⟨h1, h2, h3⟩
    exact ⟨h1, h2, fun n a b => (R.taken W (by omega) (by omega)).mpr (h3 n a b)⟩
  · rintro ⟨h1, h2, h3⟩
    exact ⟨h1, h2, fun n a b => (R.taken W (by omega) (by omega)).mp (h3 n a b)⟩
theorem Rel.leastM {m f : Int} (h : LeastM M m f) : Least o m f := ⟨(R.fit W m f).mp h.1, fun g hg c => h.2 g hg ((R.fit W m g).mpr c)⟩
theorem Rel.wfM : WfM M := ⟨by rw [R.tp]; exact W.t400, by rw [R.ly]; exact W.d6, fun d ns h => Wf.len400 W (by rw [← R.ly]; exact h)⟩
theorem Rel.rng : Rng M := fun d ns h n hn => by
  rw [R.ly] at h
  have := (W.own d ns h).2 n hn
  exact ⟨this.1, by rw [R.tp]; exact this.2.1⟩
/-- the stage of a desk by what the law keeps -/
theorem Rel.stage (i : Nat) {ns : List Int} {l : Option Int} {g : Bool} (h : o.le[i]? = some ns) (hl : M.lo[i]? = some l) (hg : M.go[i]? = some g) : ∃ z, o.sg[i]? = some z ∧ StD z g l ns.length := by
  have hi := (List.getElem?_eq_some_iff.mp h).1
  have his : i < o.sg.length := by rw [W.sl]; exact hi
  have e : o.sg[i]? = some o.sg[i] := List.getElem?_eq_getElem his
  obtain ⟨g', l', ns', a, b, c, d⟩ := R.sg i _ e
  rw [hg] at a
  rw [hl] at b
  rw [h] at c
  cases a
  cases b
  cases c
  exact ⟨_, e, d⟩
theorem Rel.lm : LM M := by
  refine ⟨by rw [R.gl, R.ly, W.sl], by rw [R.ll, R.ly, W.sl], fun i ns n h hn hg => ?_, fun i k h => ?_⟩
  · rw [R.ly] at h
    obtain ⟨l, hl⟩ := R.low W i h
    obtain ⟨z, _, d⟩ := R.stage W i h hl hg
    rcases d with ⟨_, c, _⟩ | ⟨_, _, k, c, _⟩ | ⟨_, _, _, c⟩
    · cases c
    · exact ⟨k, by rw [hl, c]⟩
    · cases ns with
      | nil => cases hn
      | cons x r => cases c
  · have hi := (List.getElem?_eq_some_iff.mp h).1
    rw [R.ll] at hi
    obtain ⟨g', l', ns', a, b, c, d⟩ := R.sg i _ (List.getElem?_eq_getElem hi)
    rw [h] at b
    cases b
    rcases d with ⟨_, _, c⟩ | ⟨_, _, k, c, _⟩ | ⟨_, _, c, _⟩
    · cases c
    · cases c
      omega
    · cases c
theorem Rel.toI : RelI o M := ⟨R.ly, fun i z h => by
  obtain ⟨g, l, ns, a, b, c, d⟩ := R.sg i z h
  rcases d with ⟨rfl, rfl, _⟩ | ⟨rfl, rfl, _⟩ | ⟨rfl, rfl, _, q⟩
  · exact ⟨by rw [a, decide_eq_true rfl], .inl rfl⟩
  · exact ⟨by rw [a, decide_eq_false (by decide +kernel)], .inr (.inl rfl)⟩
  · refine ⟨by rw [a, decide_eq_false (by decide +kernel)], .inr (.inr ⟨rfl, ?_⟩)⟩
    rw [c, List.length_eq_zero_iff.mp q]⟩
theorem Rel.twice {n : Int} (h1 : 1 ≤ n) (h2 : n ≤ (o.top : Int)) : M.twice n ↔ o.st n = "paper" := by
  constructor
  · rintro (c | c)
    · rcases R.sn n c with q | ⟨i, ns, j, k, a, b, d, e⟩
      · exact (R.wd n _ q).1
      · rw [(R.at_ i ns _ j n a d b).2, c]
        rfl
    · exact (R.wd n _ c).1
  · intro e
    cases q : M.wd n with
    | some w =>
      refine .inr ?_
      rw [q, ← (R.wd n w q).1, e]
    | none =>
      cases p : o.ho n with
      | none =>
        have := R.fr n h1 h2 q p
        rw [e] at this
        exact absurd this (by decide +kernel)
      | some d =>
        obtain ⟨i, ns, l, j, _, h, hl, hj, _⟩ := R.hold W p
        have := (R.at_ i ns l j n h hl hj).2
        rw [e] at this
        cases s : M.sn n with
        | true => exact .inl s
        | false =>
          rw [s] at this
          cases l with
          | none => exact absurd this (show ¬ (("paper" : Str) = "open") by decide +kernel)
          | some k =>
            have this : ("paper" : Str) = if (j : Int) < k then ("used" : Str) else "rest" := this
            by_cases c : (j : Int) < k
            · rw [if_pos c] at this
              exact absurd this (by decide +kernel)
            · rw [if_neg c] at this
              exact absurd this (by decide +kernel)
omit R W in
theorem filter_take {p : Int → Bool} : ∀ (l : List Int) (k : Nat), k ≤ l.length → (∀ j x, l[j]? = some x → (p x = true ↔ j < k)) → (l.filter p).length = k
  | [], k, h, _ => by simp only [List.length_nil] at h; simp only [List.filter_nil, List.length_nil]; omega
  | x :: r, k, h, hp => by
    have h0 := hp 0 x rfl
    have hr : ∀ j y, r[j]? = some y → (p y = true ↔ j < k - 1) := fun j y e => by
      have := hp (j + 1) y e
      rw [this]
      omega
    by_cases c : p x = true
    · rw [List.filter_cons_of_pos c, List.length_cons, filter_take r (k - 1) (by simp only [List.length_cons] at h; omega) hr]
      have := h0.mp c
      omega
    · rw [List.filter_cons_of_neg c]
      have k0 : k = 0 := by
        cases k with
        | zero => rfl
        | succ k => exact absurd (h0.mpr (by omega)) c
      subst k0
      exact filter_take r 0 (Nat.zero_le _) hr
theorem Rel.leastUsed {i k : Nat} {ns : List Int} (h : o.le[i]? = some ns) (hl : M.lo[i]? = some (some (k : Int))) (hk : k ≤ ns.length) : (o.least ns).length = k := by
  refine filter_take ns k hk fun j x e => ?_
  have hx := (R.at_ i ns _ j x h hl e).2
  rw [hx]
  show (!decide ((if M.sn x = true then ("paper" : Str) else if (j : Int) < (k : Int) then "used" else "rest") = "rest")) = true ↔ j < k
  by_cases s : M.sn x = true
  · rw [if_pos s]
    refine ⟨fun _ => ?_, fun _ => by decide +kernel⟩
    rcases R.sn x s with q | ⟨i', ns', j', k', a, b, d, f⟩
    · rw [(R.at_ i ns _ j x h hl e).1] at q
      cases q
    · have ei := row_uniq W h a (List.mem_of_getElem? e) (List.mem_of_getElem? b)
      subst ei
      rw [h] at a
      cases a
      have ej := ix_uniq (W.own i ns h).1 e b
      subst ej
      rw [hl] at d
      cases d
      omega
  · rw [if_neg s]
    by_cases c : (j : Int) < (k : Int)
    · rw [if_pos c]
      exact ⟨fun _ => by omega, fun _ => by decide +kernel⟩
    · rw [if_neg c]
      exact ⟨fun q => absurd q (by decide +kernel), fun q => by omega⟩
end
end Nu
namespace Nu
open PySem PySem.Spec PyProof.Rows L2
theorem getset {α : Type} {l : List α} {i j : Nat} {v x : α} (h : (l.set i v)[j]? = some x) : (i = j ∧ x = v) ∨ (i ≠ j ∧ l[j]? = some x) := by
  by_cases c : i = j
  · subst c
    have hi := (List.getElem?_eq_some_iff.mp h).1
    rw [List.length_set] at hi
    rw [List.getElem?_set_self hi] at h
    exact .inl ⟨rfl, (Option.some.inj h).symm⟩
  · rw [List.getElem?_set_ne c] at h
    exact .inr ⟨c, h⟩
theorem rel_new {t d : Nat} : Rel (Of.new t d) (Lm.new t d) := by
  have rep : ∀ {α : Type} {n i : Nat} {v x : α}, (List.replicate n v)[i]? = some x → x = v := fun h => (List.mem_replicate.mp (List.mem_of_getElem? h)).2
  refine ⟨rfl, rfl, fun i z h => ?_, ?_, ?_, fun n w h => (by cases h), fun i ns l j n h1 h2 h3 => ?_, fun n _ _ _ _ => rfl, fun n h => (by cases h)⟩
  · have h : (List.replicate d ("going" : Str))[i]? = some z := h
    have hi : i < d := by have := (List.getElem?_eq_some_iff.mp h).1; rw [List.length_replicate] at this; exact this
    refine ⟨true, none, [], ?_, ?_, ?_, .inl ⟨rep h, rfl, rfl⟩⟩
    · show (List.replicate d true)[i]? = some true
      rw [List.getElem?_replicate, if_pos hi]
    · show (List.replicate d (none : Option Int))[i]? = some none
      rw [List.getElem?_replicate, if_pos hi]
    · show (List.replicate d ([] : List Int))[i]? = some []
      rw [List.getElem?_replicate, if_pos hi]
  · show (List.replicate d true).length = (List.replicate d ("going" : Str)).length
    rw [List.length_replicate, List.length_replicate]
  · show (List.replicate d (none : Option Int)).length = (List.replicate d ("going" : Str)).length
    rw [List.length_replicate, List.length_replicate]
  · have h1 : (List.replicate d ([] : List Int))[i]? = some ns := h1
    have := rep h1
    subst this
    simp at h3
section
variable {o : Of} {M : Lm} (R : Rel o M) (W : Wf o)
include R W
/-- a desk that goes on: nothing of it counts as used -/
theorem Rel.goLow {i : Nat} (hg : M.go[i]? = some true) : M.lo[i]? = some none ∧ o.sg[i]? = some ("going" : Str) ∧ i < o.le.length := by
  have hi := (List.getElem?_eq_some_iff.mp hg).1
  rw [R.gl] at hi
  have e := List.getElem?_eq_getElem hi
  obtain ⟨g, l, ns, a, b, c, d⟩ := R.sg i _ e
  rw [hg] at a
  cases a
  rcases d with ⟨q, _, r⟩ | ⟨_, q, _⟩ | ⟨_, q, _⟩
  · rw [r] at b
    rw [q] at e
    exact ⟨b, e, (List.getElem?_eq_some_iff.mp c).1⟩
  · cases q
  · cases q
theorem rel_lend {i : Nat} {m f : Int} (hg : M.go[i]? = some true) (m1 : 1 ≤ m) (hf : Fit o m f) : Rel (o.lend i f m.toNat) (M.lend i f m.toNat) := by
  obtain ⟨hlo, hsg, hi⟩ := R.goLow W hg
  have hns : o.le[i]? = some o.le[i] := List.getElem?_eq_getElem hi
  have em : (m.toNat : Int) = m := by omega
  have hgM : M.ly.getD i [] = o.le.getD i [] := by rw [R.ly]
  have free : ∀ n, f ≤ n → n < f + m → o.st n = "free" := fun n a b => hf.2.2 n a b
  have nwd : ∀ n w, M.wd n = some w → ¬ (f ≤ n ∧ n < f + (m.toNat : Int)) := fun n w h c => by
    have := R.wd n w h
    have e := free n c.1 (by omega)
    rw [this.1] at e
    exact usedW_nf this.2.2 e
  have nrow : ∀ (i' : Nat) (ns : List Int) (l : Option Int) (j : Nat) (n : Int), o.le[i']? = some ns → M.lo[i']? = some l → ns[j]? = some n → ¬ (f ≤ n ∧ n < f + (m.toNat : Int)) := fun i' ns l j n h1 h2 h3 c => by
    have e := free n c.1 (by omega)
    rw [(R.at_ i' ns l j n h1 h2 h3).2] at e
    exact stN_nf _ _ _ e
  refine ⟨R.tp, by show M.ly.set i _ = o.le.set i _; rw [hgM, R.ly], fun i' z h => ?_, R.gl, R.ll, fun n w h => ?_, fun i' ns l j n h1 h2 h3 => ?_, fun n n1 n2 h1 h2 => ?_, fun n h => ?_⟩
  · obtain ⟨g, l, ns, a, b, c, d⟩ := R.sg i' z h
    by_cases ci : i = i'
    · subst ci
      rw [hlo] at b
      cases b
      refine ⟨g, none, _, a, hlo, List.getElem?_set_self hi, ?_⟩
      rcases d with q | ⟨_, _, k, q, _⟩ | ⟨q, _⟩
      · exact .inl q
      · cases q
      · have h : o.sg[i]? = some z := h
        rw [hsg] at h
        cases h
        exact absurd q (by decide +kernel)
    · exact ⟨g, l, ns, a, b, by show (o.le.set i _)[i']? = _; rw [List.getElem?_set_ne ci]; exact c, d⟩
  · have c := nwd n w h
    show (if f ≤ n ∧ n < f + (m.toNat : Int) then ("open" : Str) else o.st n) = w ∧ (if f ≤ n ∧ n < f + (m.toNat : Int) then some (i : Int) else o.ho n) = none ∧ UsedW w
    rw [if_neg c, if_neg c]
    exact R.wd n w h
  · show M.wd n = none ∧ (if f ≤ n ∧ n < f + (m.toNat : Int) then ("open" : Str) else o.st n) = StN l (M.sn n) j
    have h1 : (o.le.set i ((o.le.getD i []) ++ blk f m.toNat))[i']? = some ns := h1
    rcases getset h1 with ⟨rfl, rfl⟩ | ⟨ne, h1⟩
    · have h2 : M.lo[i]? = some l := h2
      rw [hlo] at h2
      cases h2
      rw [le_at hns] at h3
      by_cases cj : j < o.le[i].length
      · rw [List.getElem?_append_left cj] at h3
        rw [if_neg (nrow i _ _ j n hns hlo h3)]
        exact R.at_ i _ _ j n hns hlo h3
      · rw [List.getElem?_append_right (by omega)] at h3
        have b := mem_blk.mp (List.mem_of_getElem? h3)
        rw [if_pos b]
        refine ⟨?_, rfl⟩
        cases q : M.wd n with
        | none => rfl
        | some w => exact absurd b (nwd n w q)
    · rw [if_neg (nrow i' ns l j n h1 h2 h3)]
      exact R.at_ i' ns l j n h1 h2 h3
  · have h2 : (if f ≤ n ∧ n < f + (m.toNat : Int) then some (i : Int) else o.ho n) = none := h2
    show (if f ≤ n ∧ n < f + (m.toNat : Int) then ("open" : Str) else o.st n) = "free"
    by_cases c : f ≤ n ∧ n < f + (m.toNat : Int)
    · rw [if_pos c] at h2
      cases h2
    · rw [if_neg c] at h2 ⊢
      exact R.fr n n1 n2 h1 h2
  · rcases R.sn n h with q | ⟨i', ns, j, k, a, b, c, d⟩
    · exact .inl q
    · have ne : i ≠ i' := fun z => by subst z; rw [hlo] at c; cases c
      exact .inr ⟨i', ns, j, k, by show (o.le.set i _)[i']? = _; rw [List.getElem?_set_ne ne]; exact a, b, c, d⟩
/-- numbers of a desk that goes on are let go (report, back) -/
theorem rel_lets {i : Nat} (hg : M.go[i]? = some true) (l : List (Int × Str)) (p : List (Int × Str)) (rest : List Int) (hk : l.map (·.1) ++ rest = o.le.getD i []) (hp : ∀ n w, (n, w) ∈ p → UsedW w)
    (hlp : p = l ∨ (p = [] ∧ ∀ q ∈ l, q.2 = "free")) : Rel { o.lets l with le := o.le.set i rest } { M.puts p with ly := M.ly.set i rest } := by
  obtain ⟨hlo, hsg, hi⟩ := R.goLow W hg
  have hns : o.le[i]? = some o.le[i] := List.getElem?_eq_getElem hi
  rw [le_at hns] at hk
  obtain ⟨nd, own⟩ := W.own i _ hns
  rw [← hk] at nd
  obtain ⟨ndl, _, ndx⟩ := List.nodup_append.mp nd
  have pr := puts_rest p M
  have lt := lets_top l o
  have kin : ∀ n ∈ l.map (·.1), n ∈ o.le[i] := fun n hn => by rw [← hk]; exact List.mem_append_left _ hn
  have pk : ∀ n, n ∈ p.map (·.1) → n ∈ l.map (·.1) := fun n hn => by
    rcases hlp with q | q
    · rw [q] at hn
      exact hn
    · rw [q.1] at hn
      cases hn
  have nwd : ∀ n w, M.wd n = some w → n ∉ l.map (·.1) := fun n w h c => by
    obtain ⟨j, hj, e⟩ := List.getElem_of_mem (kin n c)
    rw [(R.at_ i _ _ j n hns hlo (by rw [List.getElem?_eq_getElem hj, e])).1] at h
    cases h
  have nrow : ∀ (i' : Nat) (ns : List Int) (n : Int), i ≠ i' → o.le[i']? = some ns → n ∈ ns → n ∉ l.map (·.1) := fun i' ns n ne h hn c => ne (row_uniq W hns h (kin n c) hn)
  have pn : ∀ n, n ∉ l.map (·.1) → (M.puts p).wd n = M.wd n := fun n c => puts_out p M n fun z => c (pk n z)
  refine ⟨by show (M.puts p).top = (o.lets l).top; rw [pr.1, lt.1]; exact R.tp, by show M.ly.set i _ = o.le.set i _; rw [R.ly], fun i' z h => ?_, by show (M.puts p).go.length = (o.lets l).sg.length; rw [pr.2.2.2.1, lt.2.1]; exact R.gl, by show (M.puts p).lo.length = (o.lets l).sg.length; rw [pr.2.2.2.2, lt.2.1]; exact R.ll, fun n w h => ?_, fun i' ns l' j n h1 h2 h3 => ?_, fun n n1 n2 h1 h2 => ?_, fun n h => ?_⟩
  · have h : (o.lets l).sg[i']? = some z := h
    rw [lt.2.1] at h
    obtain ⟨g, l', ns, a, b, c, d⟩ := R.sg i' z h
    by_cases ci : i = i'
    · subst ci
      rw [hlo] at b
      cases b
      refine ⟨g, none, rest, by show (M.puts p).go[i]? = _; rw [pr.2.2.2.1]; exact a, by show (M.puts p).lo[i]? = _; rw [pr.2.2.2.2]; exact hlo, List.getElem?_set_self hi, ?_⟩
      rcases d with q | ⟨_, _, k, q, _⟩ | ⟨q, _⟩
      · exact .inl q
      · cases q
      · rw [hsg] at h
        cases h
        exact absurd q (by decide +kernel)
    · exact ⟨g, l', ns, by show (M.puts p).go[i']? = _; rw [pr.2.2.2.1]; exact a, by show (M.puts p).lo[i']? = _; rw [pr.2.2.2.2]; exact b, by show (o.le.set i _)[i']? = _; rw [List.getElem?_set_ne ci]; exact c, d⟩
  · have h : (M.puts p).wd n = some w := h
    show (o.lets l).st n = w ∧ (o.lets l).ho n = none ∧ UsedW w
    by_cases c : n ∈ l.map (·.1)
    · rcases hlp with q | q
      · subst q
        obtain ⟨⟨n', w'⟩, hm, rfl⟩ := List.mem_map.mp c
        have h9 := puts_in p M n' w' ndl hm
        rw [h9] at h
        cases h
        exact ⟨lets_st_in p o n' _ ndl hm, by rw [lets_ho, if_pos c], hp _ _ hm⟩
      · have e : (M.puts p).wd n = M.wd n := puts_out p M n (by rw [q.1]; simp)
        rw [e] at h
        exact absurd c (nwd n w h)
    · rw [pn n c] at h
      rw [lets_st_out l o n c, lets_ho, if_neg c]
      exact R.wd n w h
  · have h1 : (o.le.set i rest)[i']? = some ns := h1
    replace h2 : (M.puts p).lo[i']? = some l' := h2
    rw [pr.2.2.2.2] at h2
    show (M.puts p).wd n = none ∧ (o.lets l).st n = StN l' ((M.puts p).sn n) j
    rw [pr.2.1]
    rcases getset h1 with ⟨rfl, rfl⟩ | ⟨ne, h1⟩
    · rw [hlo] at h2
      cases h2
      have hm := List.mem_of_getElem? h3
      have c : n ∉ l.map (·.1) := fun q => ndx n q n hm rfl
      have hj : o.le[i][(l.map (·.1)).length + j]? = some n := by
        have e : (l.map (·.1) ++ ns)[(l.map (·.1)).length + j]? = some n := by
          rw [List.getElem?_append_right (Nat.le_add_right _ _), Nat.add_sub_cancel_left]
          exact h3
        rw [hk] at e
        exact e
      rw [pn n c, lets_st_out l o n c]
      have := R.at_ i _ _ _ n hns hlo hj
      exact ⟨this.1, this.2⟩
    · have c := nrow i' ns n ne h1 (List.mem_of_getElem? h3)
      rw [pn n c, lets_st_out l o n c]
      exact R.at_ i' ns l' j n h1 h2 h3
  · have h1 : (M.puts p).wd n = none := h1
    have h2 : (o.lets l).ho n = none := h2
    have n2 : n ≤ (o.top : Int) := by have q : n ≤ ((o.lets l).top : Int) := n2; rw [lt.1] at q; exact q
    show (o.lets l).st n = "free"
    by_cases c : n ∈ l.map (·.1)
    · obtain ⟨⟨n', w'⟩, hm, rfl⟩ := List.mem_map.mp c
      rcases hlp with q | q
      · subst q
        rw [puts_in p M n' w' ndl hm] at h1
        cases h1
      · rw [lets_st_in l o n' w' ndl hm]
        exact q.2 _ hm
    · rw [pn n c] at h1
      rw [lets_ho, if_neg c] at h2
      rw [lets_st_out l o n c]
      exact R.fr n n1 n2 h1 h2
  · have h : (M.puts p).sn n = true := h
    rw [pr.2.1] at h
    show (M.puts p).wd n = some "paper" ∨ _
    rcases R.sn n h with q | ⟨i', ns, j, k, a, b, c, d⟩
    · rw [pn n (nwd n _ q)]
      exact .inl q
    · have ne : i ≠ i' := fun z => by subst z; rw [hlo] at c; cases c
      exact .inr ⟨i', ns, j, k, by show (o.le.set i _)[i']? = _; rw [List.getElem?_set_ne ne]; exact a, b, by show (M.puts p).lo[i']? = _; rw [pr.2.2.2.2]; exact c, d⟩
theorem rel_report {i : Nat} {ws : List Str} (hg : M.go[i]? = some true) (hw : Words ws) (hl : ws.length ≤ (o.le.getD i []).length) : Rel (o.report i ws) (M.report i ws) := by
  have hgM : M.ly.getD i [] = o.le.getD i [] := by rw [R.ly]
  have ek : (((o.le.getD i []).take ws.length).zip ws).map (·.1) = (o.le.getD i []).take ws.length := zip_keys _ _ (by rw [List.length_take]; omega)
  unfold Of.report Lm.report
  rw [hgM]
  refine rel_lets R W hg _ _ _ (by rw [ek, List.take_append_drop]) (fun n w h => ?_) (.inl rfl)
  rcases hw w (List.of_mem_zip h).2 with q | q
  · exact .inl q
  · exact .inr (.inl q)
theorem rel_back {i : Nat} (hg : M.go[i]? = some true) : Rel (o.back i) (M.back i) := by
  have ek : ((o.le.getD i []).map fun n => (n, ("free" : Str))).map (·.1) = o.le.getD i [] := by rw [List.map_map]; exact List.map_id' _
  unfold Of.back Lm.back
  refine rel_lets R W hg ((o.le.getD i []).map fun n => (n, ("free" : Str))) [] [] (by rw [ek, List.append_nil]) (fun n w h => by cases h) (.inr ⟨rfl, fun q hq => ?_⟩)
  obtain ⟨n, _, rfl⟩ := List.mem_map.mp hq
  rfl
end
end Nu
namespace Nu
open PySem PySem.Spec PyProof.Rows L2
theorem wf_stop {o : Of} (w : Wf o) (i : Nat) : Wf (o.stop i) := by
  refine ⟨w.t1, w.t400, w.d1, w.d6, by show (o.sg.set i _).length = _; rw [List.length_set]; exact w.sl, w.own, w.hol, fun n e => ?_⟩
  have e : (if n ∈ o.le.getD i [] then ("rest" : Str) else o.st n) = "free" := e
  by_cases c : n ∈ o.le.getD i []
  · rw [if_pos c] at e
    exact absurd e (by decide +kernel)
  · rw [if_neg c] at e
    exact w.fre n e
theorem wf_found {o : Of} (w : Wf o) (i : Nat) (n : Int) : Wf (o.found i n) := by
  have w2 := useS_wf w ((o.le.getD i []).take ((o.le.getD i []).idxOf n))
  refine ⟨w.t1, w.t400, w.d1, w.d6, w.sl, w.own, w.hol, fun m e => ?_⟩
  have e : (if m = n then ("paper" : Str) else (o.useS ((o.le.getD i []).take ((o.le.getD i []).idxOf n))).st m) = "free" := e
  by_cases c : m = n
  · rw [if_pos c] at e
    exact absurd e (by decide +kernel)
  · rw [if_neg c] at e
    exact w2.fre m e
theorem wf_settle {o : Of} (w : Wf o) {i k : Nat} {ns : List Int} (h : o.le[i]? = some ns) : Wf (o.settle i k) := by
  have hk := setl_keys o i k
  rw [le_at h] at hk
  have w3 : Wf { (o.useS ((o.le.getD i []).take k)).lets (o.setl i k) with le := (o.useS ((o.le.getD i []).take k)).le.set i [] } := wf_lets (useS_wf w _) (d := i) (ns := ns) h (o.setl i k) [] (fun n => by rw [hk]; simp) List.nodup_nil (fun n hn => by cases hn)
  have lt := lets_top (o.setl i k) (o.useS ((o.le.getD i []).take k))
  exact ⟨w3.t1, w3.t400, w3.d1, w3.d6, by
    have e := w3.sl
    show (o.sg.set i "settled").length = _
    rw [List.length_set]
    have e : ((o.useS ((o.le.getD i []).take k)).lets (o.setl i k)).sg.length = (o.le.set i []).length := e
    rw [lt.2.1] at e
    exact e, w3.own, w3.hol, w3.fre⟩
section
variable {o : Of} {M : Lm} (R : Rel o M) (W : Wf o)
include R W
theorem rel_stop {i : Nat} (hg : M.go[i]? = some true) : Rel (o.stop i) (M.stop i) := by
  obtain ⟨hlo, hsg, hi⟩ := R.goLow W hg
  have hns : o.le[i]? = some o.le[i] := List.getElem?_eq_getElem hi
  have hgd := le_at hns
  have hgl := (List.getElem?_eq_some_iff.mp hg).1
  have hll : i < M.lo.length := (List.getElem?_eq_some_iff.mp hlo).1
  have nwd : ∀ n w, M.wd n = some w → n ∉ o.le[i] := fun n w h c => by
    obtain ⟨j, hj, e⟩ := List.getElem_of_mem c
    rw [(R.at_ i _ _ j n hns hlo (by rw [List.getElem?_eq_getElem hj, e])).1] at h
    cases h
  have es : ∀ n, (o.stop i).st n = if n ∈ o.le[i] then ("rest" : Str) else o.st n := fun n => by
    show (if n ∈ o.le.getD i [] then ("rest" : Str) else o.st n) = _
    rw [hgd]
  refine ⟨R.tp, R.ly, fun i' z h => ?_, by show (M.go.set i false).length = (o.sg.set i "stopped").length; rw [List.length_set, List.length_set]; exact R.gl, by show (M.lo.set i (some 0)).length = (o.sg.set i "stopped").length; rw [List.length_set, List.length_set]; exact R.ll, fun n w h => ?_, fun i' ns l j n h1 h2 h3 => ?_, fun n n1 n2 h1 h2 => ?_, fun n h => ?_⟩
  · have h : (o.sg.set i "stopped")[i']? = some z := h
    rcases getset h with ⟨rfl, rfl⟩ | ⟨ne, h⟩
    · exact ⟨false, some 0, _, List.getElem?_set_self hgl, List.getElem?_set_self hll, hns, .inr (.inl ⟨rfl, rfl, 0, rfl, Nat.zero_le _⟩)⟩
    · obtain ⟨g, l, ns, a, b, c, d⟩ := R.sg i' z h
      exact ⟨g, l, ns, by show (M.go.set i false)[i']? = _; rw [List.getElem?_set_ne ne]; exact a, by show (M.lo.set i (some 0))[i']? = _; rw [List.getElem?_set_ne ne]; exact b, c, d⟩
  · rw [es, if_neg (nwd n w h)]
    exact R.wd n w h
  · rw [es]
    replace h2 : (M.lo.set i (some 0))[i']? = some l := h2
    show M.wd n = none ∧ _ = StN l (M.sn n) j
    rcases getset h2 with ⟨rfl, rfl⟩ | ⟨ne, h2⟩
    · have h1 : o.le[i]? = some ns := h1
      have h9 := R.at_ i ns _ j n h1 hlo h3
      rw [hns] at h1
      cases h1
      refine ⟨h9.1, ?_⟩
      rw [if_pos (List.mem_of_getElem? h3)]
      have s : ¬ M.sn n = true := fun s => by
        rcases R.sn n s with q | ⟨i', ns', j', k', a, b, d, f⟩
        · rw [h9.1] at q
          cases q
        · have ei := row_uniq W hns a (List.mem_of_getElem? h3) (List.mem_of_getElem? b)
          subst ei
          rw [hlo] at d
          cases d
      show _ = if M.sn n = true then ("paper" : Str) else if (j : Int) < 0 then "used" else "rest"
      rw [if_neg s, if_neg (by omega)]
    · rw [if_neg fun z => ne (row_uniq W hns h1 z (List.mem_of_getElem? h3))]
      exact R.at_ i' ns l j n h1 h2 h3
  · rw [es, if_neg fun z => by
      have h2 : o.ho n = none := h2
      rw [((W.own i _ hns).2 n z).2.2] at h2
      cases h2]
    exact R.fr n n1 n2 h1 h2
  · rcases R.sn n h with q | ⟨i', ns, j, k, a, b, c, d⟩
    · exact .inl q
    · have ne : i ≠ i' := fun z => by subst z; rw [hlo] at c; cases c
      exact .inr ⟨i', ns, j, k, a, b, by show (M.lo.set i (some 0))[i']? = _; rw [List.getElem?_set_ne ne]; exact c, d⟩
theorem rel_found {i : Nat} {ns : List Int} {n : Int} {k : Nat} (hns : o.le[i]? = some ns) (hg : M.go[i]? = some false) (hl : M.lo[i]? = some (some (k : Int))) (hk : k ≤ ns.length) (hm : n ∈ ns) : Rel (o.found i n) (M.found i n) := by
  have hgd := le_at hns
  have hgM : M.ly.getD i [] = ns := by rw [R.ly]; exact hgd
  have hll : i < M.lo.length := (List.getElem?_eq_some_iff.mp hl).1
  obtain ⟨nd, own⟩ := W.own i _ hns
  have hix : ns.idxOf n < ns.length := List.idxOf_lt_length_of_mem hm
  have hat : ns[ns.idxOf n]? = some n := by rw [List.getElem?_eq_getElem hix, List.getElem_idxOf]
  have hlow : M.lowOf i = (k : Int) := low_at hl
  have es : ∀ m, (o.found i n).st m = if m = n then ("paper" : Str) else if m ∈ ns.take (ns.idxOf n) ∧ o.st m = "rest" then "used" else o.st m := fun m => by
    show (if m = n then ("paper" : Str) else if m ∈ (o.le.getD i []).take ((o.le.getD i []).idxOf n) ∧ o.st m = "rest" then "used" else o.st m) = _
    rw [hgd]
  have el : (M.found i n).lo = M.lo.set i (some (if 1 + ((ns.idxOf n : Nat) : Int) > (k : Int) then 1 + ((ns.idxOf n : Nat) : Int) else (k : Int))) := by
    show M.lo.set i _ = _
    rw [hgM, hlow]
  obtain ⟨k', hk', ek'⟩ : ∃ k' : Nat, (if 1 + ((ns.idxOf n : Nat) : Int) > (k : Int) then 1 + ((ns.idxOf n : Nat) : Int) else (k : Int)) = (k' : Int) ∧ k' = max k (1 + ns.idxOf n) := by
    by_cases c : 1 + ((ns.idxOf n : Nat) : Int) > (k : Int)
    · exact ⟨1 + ns.idxOf n, by rw [if_pos c]; omega, by omega⟩
    · exact ⟨k, by rw [if_neg c], by omega⟩
  rw [hk'] at el
  have out : ∀ m, m ∉ ns → (o.found i n).st m = o.st m := fun m h => by
    rw [es, if_neg fun z => h (by rw [z]; exact hm), if_neg fun z => h (List.mem_of_mem_take z.1)]
  have nwd : ∀ m w, M.wd m = some w → m ∉ ns := fun m w h c => by
    obtain ⟨j, hj, e⟩ := List.getElem_of_mem c
    rw [(R.at_ i _ _ j m hns hl (by rw [List.getElem?_eq_getElem hj, e])).1] at h
    cases h
  refine ⟨R.tp, R.ly, fun i' z h => ?_, R.gl, by rw [el, List.length_set]; exact R.ll, fun m w h => ?_, fun i' ns' l j m h1 h2 h3 => ?_, fun m n1 n2 h1 h2 => ?_, fun m h => ?_⟩
  · obtain ⟨g, l, ns', a, b, c, d⟩ := R.sg i' z h
    by_cases ci : i = i'
    · subst ci
      rw [hl] at b
      cases b
      rw [hns] at c
      cases c
      refine ⟨g, _, ns, a, by rw [el]; exact List.getElem?_set_self hll, hns, ?_⟩
      rcases d with ⟨_, _, q⟩ | ⟨q1, q2, _⟩ | ⟨_, _, q, _⟩
      · cases q
      · exact .inr (.inl ⟨q1, q2, k', rfl, by omega⟩)
      · cases q
    · exact ⟨g, l, ns', a, by rw [el, List.getElem?_set_ne ci]; exact b, c, d⟩
  · rw [out m (nwd m w h)]
    exact R.wd m w h
  · rw [el] at h2
    show M.wd m = none ∧ _ = StN l (if m = n then true else M.sn m) j
    rcases getset h2 with ⟨rfl, rfl⟩ | ⟨ne, h2⟩
    · have h1 : o.le[i]? = some ns' := h1
      have h9 := R.at_ i ns' _ j m h1 hl h3
      rw [hns] at h1
      cases h1
      refine ⟨h9.1, ?_⟩
      rw [es]
      show _ = if (if m = n then true else M.sn m) = true then ("paper" : Str) else if (j : Int) < (k' : Int) then "used" else "rest"
      by_cases c : m = n
      · rw [if_pos c, if_pos c, if_pos rfl]
      · rw [if_neg c, if_neg c]
        have h10 : o.st m = if M.sn m = true then ("paper" : Str) else if (j : Int) < (k : Int) then "used" else "rest" := h9.2
        have jne : j ≠ ns.idxOf n := fun z => by
          subst z
          rw [hat] at h3
          exact c (Option.some.inj h3).symm
        have inT : m ∈ ns.take (ns.idxOf n) ↔ j < ns.idxOf n := by
          constructor
          · intro hh
            obtain ⟨j', hj', e⟩ := List.getElem_of_mem hh
            rw [List.length_take] at hj'
            have h11 : ns[j']? = some m := by
              rw [← e, List.getElem_take]
              exact List.getElem?_eq_getElem (by omega)
            have := ix_uniq nd h3 h11
            omega
          · intro hh
            exact List.mem_of_getElem? (i := j) (by rw [List.getElem?_take, if_pos hh]; exact h3)
        by_cases s : M.sn m = true
        · rw [if_pos s] at h10 ⊢
          rw [if_neg fun z => by have := z.2; rw [h10] at this; exact absurd this (by decide +kernel), h10]
        · rw [if_neg s] at h10 ⊢
          by_cases c2 : (j : Int) < (k : Int)
          · rw [if_pos c2] at h10
            rw [if_neg fun z => by have := z.2; rw [h10] at this; exact absurd this (by decide +kernel), h10, if_pos (by omega)]
          · rw [if_neg c2] at h10
            by_cases c3 : j < ns.idxOf n
            · rw [if_pos ⟨inT.mpr c3, h10⟩, if_pos (by omega)]
            · rw [if_neg fun z => c3 (inT.mp z.1), if_neg (by omega), h10]
    · have mn : m ∉ ns := fun z => ne (row_uniq W hns h1 z (List.mem_of_getElem? h3))
      rw [out m mn, if_neg fun z => mn (by rw [z]; exact hm)]
      exact R.at_ i' ns' l j m h1 h2 h3
  · have mn : m ∉ ns := fun z => by
      have h2 : o.ho m = none := h2
      rw [(own m z).2.2] at h2
      cases h2
    rw [out m mn]
    exact R.fr m n1 n2 h1 h2
  · have h : (if m = n then true else M.sn m) = true := h
    by_cases c : m = n
    · subst c
      exact .inr ⟨i, ns, ns.idxOf m, (k' : Int), hns, hat, by rw [el]; exact List.getElem?_set_self hll, by omega⟩
    · rw [if_neg c] at h
      rcases R.sn m h with q | ⟨i', ns', j, k1, a, b, c1, d⟩
      · exact .inl q
      · by_cases ci : i = i'
        · subst ci
          rw [hl] at c1
          cases c1
          exact .inr ⟨i, ns', j, (k' : Int), a, b, by rw [el]; exact List.getElem?_set_self hll, by omega⟩
        · exact .inr ⟨i', ns', j, k1, a, b, by rw [el, List.getElem?_set_ne ci]; exact c1, d⟩
theorem rel_settle {i k km : Nat} {ns : List Int} (hns : o.le[i]? = some ns) (hg : M.go[i]? = some false) (hl : M.lo[i]? = some (some (k : Int))) (hk : k ≤ km) (hkm : km ≤ ns.length) : Rel (o.settle i km) (M.settle i km) := by
  have hgd := le_at hns
  have hi := (List.getElem?_eq_some_iff.mp hns).1
  have hgM : M.ly.getD i [] = ns := by rw [R.ly]; exact hgd
  have hll : i < M.lo.length := (List.getElem?_eq_some_iff.mp hl).1
  have his : i < o.sg.length := by rw [← R.ll]; exact hll
  obtain ⟨nd, own⟩ := W.own i _ hns
  have LK : (o.setl i km).map (·.1) = ns := by rw [setl_keys, hgd]
  have ndL : ((o.setl i km).map (·.1)).Nodup := by rw [LK]; exact nd
  have WK : (M.setw i km).map (·.1) = ns.take km := by
    unfold Lm.setw
    rw [hgM, List.map_map]
    exact List.map_id' _
  have ndW : ((M.setw i km).map (·.1)).Nodup := by rw [WK]; exact nd.sublist (List.take_sublist _ _)
  have pr := puts_rest (M.setw i km) M
  have lt := lets_top (o.setl i km) (o.useS ((o.le.getD i []).take km))
  have nwd : ∀ m w, M.wd m = some w → m ∉ ns := fun m w h c => by
    obtain ⟨j, hj, e⟩ := List.getElem_of_mem c
    rw [(R.at_ i _ _ j m hns hl (by rw [List.getElem?_eq_getElem hj, e])).1] at h
    cases h
  have out : ∀ m, m ∉ ns → (o.settle i km).st m = o.st m := fun m h => by
    show ((o.useS ((o.le.getD i []).take km)).lets (o.setl i km)).st m = _
    rw [lets_st_out _ _ m (by rw [LK]; exact h)]
    show (if m ∈ (o.le.getD i []).take km ∧ o.st m = "rest" then ("used" : Str) else o.st m) = _
    rw [hgd, if_neg fun z => h (List.mem_of_mem_take z.1)]
  have ho' : ∀ m, (o.settle i km).ho m = if m ∈ ns then none else o.ho m := fun m => by
    show ((o.useS ((o.le.getD i []).take km)).lets (o.setl i km)).ho m = _
    rw [lets_ho, LK]
    rfl
  have wout : ∀ m, m ∉ ns.take km → (M.settle i km).wd m = M.wd m := fun m h => puts_out _ M m (by rw [WK]; exact h)
  have win : ∀ m, m ∈ ns.take km → (M.settle i km).wd m = some (if M.sn m = true then ("paper" : Str) else "used") := fun m h => by
    refine puts_in _ M m _ ndW ?_
    unfold Lm.setw
    rw [hgM]
    exact List.mem_map.mpr ⟨m, h, rfl⟩
  have sin : ∀ m, m ∈ ns.take km → (o.settle i km).st m = if M.sn m = true then ("paper" : Str) else "used" := fun m h => by
    have hin : (m, (o.useS ((o.le.getD i []).take km)).st m) ∈ o.setl i km := by
      unfold Of.setl
      refine List.mem_append_left _ (List.mem_map.mpr ⟨m, by rw [hgd]; exact h, rfl⟩)
    have h1 : (o.settle i km).st m = (o.useS ((o.le.getD i []).take km)).st m := lets_st_in _ _ m _ ndL hin
    rw [h1]
    show (if m ∈ (o.le.getD i []).take km ∧ o.st m = "rest" then ("used" : Str) else o.st m) = _
    rw [hgd]
    obtain ⟨j, hj, e⟩ := List.getElem_of_mem (List.mem_of_mem_take h)
    have h2 : o.st m = if M.sn m = true then ("paper" : Str) else if (j : Int) < (k : Int) then "used" else "rest" := (R.at_ i _ _ j m hns hl (by rw [List.getElem?_eq_getElem hj, e])).2
    by_cases s : M.sn m = true
    · rw [if_pos s] at h2 ⊢
      rw [if_neg fun z => by have := z.2; rw [h2] at this; exact absurd this (by decide +kernel), h2]
    · rw [if_neg s] at h2 ⊢
      by_cases c2 : (j : Int) < (k : Int)
      · rw [if_pos c2] at h2
        rw [if_neg fun z => by have := z.2; rw [h2] at this; exact absurd this (by decide +kernel), h2]
      · rw [if_neg c2] at h2
        rw [if_pos ⟨h, h2⟩]
  have sdr : ∀ m, m ∈ ns.drop km → (o.settle i km).st m = "free" := fun m h => by
    refine lets_st_in _ _ m _ ndL ?_
    unfold Of.setl
    refine List.mem_append_right _ (List.mem_map.mpr ⟨m, by rw [hgd]; exact h, rfl⟩)
  refine ⟨by show (M.puts _).top = ((o.useS _).lets _).top; rw [pr.1, lt.1]; exact R.tp, by show M.ly.set i [] = o.le.set i []; rw [R.ly], fun i' z h => ?_, by show (M.puts _).go.length = (o.sg.set i _).length; rw [pr.2.2.2.1, List.length_set]; exact R.gl, by show (M.lo.set i none).length = (o.sg.set i _).length; rw [List.length_set, List.length_set]; exact R.ll, fun m w h => ?_, fun i' ns' l j m h1 h2 h3 => ?_, fun m n1 n2 h1 h2 => ?_, fun m h => ?_⟩
  · have h : (o.sg.set i "settled")[i']? = some z := h
    rcases getset h with ⟨rfl, rfl⟩ | ⟨ne, h⟩
    · exact ⟨false, none, [], by show (M.puts _).go[i]? = _; rw [pr.2.2.2.1]; exact hg, List.getElem?_set_self hll, List.getElem?_set_self hi, .inr (.inr ⟨rfl, rfl, rfl, rfl⟩)⟩
    · obtain ⟨g, l, ns', a, b, c, d⟩ := R.sg i' z h
      exact ⟨g, l, ns', by show (M.puts _).go[i']? = _; rw [pr.2.2.2.1]; exact a, by show (M.lo.set i none)[i']? = _; rw [List.getElem?_set_ne ne]; exact b, by show (o.le.set i [])[i']? = _; rw [List.getElem?_set_ne ne]; exact c, d⟩
  · by_cases c : m ∈ ns.take km
    · rw [win m c] at h
      cases h
      rw [sin m c, ho', if_pos (List.mem_of_mem_take c)]
      refine ⟨rfl, rfl, ?_⟩
      by_cases s : M.sn m = true
      · rw [if_pos s]
        exact .inl rfl
      · rw [if_neg s]
        exact .inr (.inr rfl)
    · rw [wout m c] at h
      have mn := nwd m w h
      rw [out m mn, ho', if_neg mn]
      exact R.wd m w h
  · replace h1 : (o.le.set i [])[i']? = some ns' := h1
    replace h2 : (M.lo.set i none)[i']? = some l := h2
    rcases getset h1 with ⟨rfl, rfl⟩ | ⟨ne, h1⟩
    · simp at h3
    · rw [List.getElem?_set_ne ne] at h2
      have mn : m ∉ ns := fun z => ne (row_uniq W hns h1 z (List.mem_of_getElem? h3))
      rw [out m mn, wout m fun z => mn (List.mem_of_mem_take z)]
      have e : (M.settle i km).sn = M.sn := pr.2.1
      rw [e]
      exact R.at_ i' ns' l j m h1 h2 h3
  · have n2 : m ≤ (o.top : Int) := by have q : m ≤ (((o.useS ((o.le.getD i []).take km)).lets (o.setl i km)).top : Int) := n2; rw [lt.1] at q; exact q
    by_cases c : m ∈ ns.take km
    · rw [win m c] at h1
      cases h1
    · rw [wout m c] at h1
      by_cases c2 : m ∈ ns
      · rw [← List.take_append_drop km ns] at c2
        exact sdr m ((List.mem_append.mp c2).resolve_left c)
      · rw [ho', if_neg c2] at h2
        rw [out m c2]
        exact R.fr m n1 n2 h1 h2
  · have e : (M.settle i km).sn = M.sn := pr.2.1
    rw [e] at h
    rcases R.sn m h with q | ⟨i', ns', j, k1, a, b, c1, d⟩
    · have mn := nwd m _ q
      rw [wout m fun z => mn (List.mem_of_mem_take z)]
      exact .inl q
    · by_cases ci : i = i'
      · subst ci
        rw [hl] at c1
        cases c1
        rw [hns] at a
        cases a
        refine .inl ?_
        rw [win m (List.mem_of_getElem? (i := j) (by rw [List.getElem?_take, if_pos (by omega)]; exact b)), if_pos h]
      · exact .inr ⟨i', ns', j, k1, by show (o.le.set i [])[i']? = _; rw [List.getElem?_set_ne ci]; exact a, b, by show (M.lo.set i none)[i']? = _; rw [List.getElem?_set_ne ci]; exact c1, d⟩
end
end Nu
namespace Nu
open PySem PySem.Spec PyProof.Rows L2
section
variable {o : Of} {M : Lm} (R : Rel o M) (W : Wf o)
include R W
theorem Rel.noGo {i : Nat} {z : Str} (h : M.go[i]? = some false) (hz : o.sg[i]? = some z) : ¬ z = "going" := fun q => by
  obtain ⟨g, l, ns, a, b, c, d⟩ := R.sg i z hz
  rw [h] at a
  cases a
  subst q
  rcases d with ⟨_, q, _⟩ | ⟨q, _⟩ | ⟨q, _⟩
  · cases q
  · exact absurd q (by decide +kernel)
  · exact absurd q (by decide +kernel)
theorem Rel.ofGo {i : Nat} (h : o.sg[i]? = some ("going" : Str)) : M.go[i]? = some true := by
  obtain ⟨g, l, ns, a, b, c, d⟩ := R.sg i _ h
  rcases d with ⟨_, q, _⟩ | ⟨q, _⟩ | ⟨q, _⟩
  · rw [a, q]
  · exact absurd q (by decide +kernel)
  · exact absurd q (by decide +kernel)
theorem Rel.ofStop {i : Nat} (h : o.sg[i]? = some ("stopped" : Str)) : M.go[i]? = some false ∧ ∃ (k : Nat) (ns : List Int), M.lo[i]? = some (some (k : Int)) ∧ o.le[i]? = some ns ∧ k ≤ ns.length ∧ (o.least ns).length = k := by
  obtain ⟨g, l, ns, a, b, c, d⟩ := R.sg i _ h
  rcases d with ⟨q, _⟩ | ⟨_, q, k, e, hk⟩ | ⟨q, _⟩
  · exact absurd q (by decide +kernel)
  · rw [q] at a
    rw [e] at b
    exact ⟨a, k, ns, b, c, hk, R.leastUsed W c b hk⟩
  · exact absurd q (by decide +kernel)
theorem Rel.loNone {i : Nat} {z : Str} (h : M.lo[i]? = some none) (hz : o.sg[i]? = some z) : ¬ z = "stopped" := fun q => by
  subst q
  obtain ⟨_, k, ns, e, _⟩ := R.ofStop W hz
  rw [h] at e
  cases e
theorem Rel.loSome {i : Nat} {k : Int} (h : M.lo[i]? = some (some k)) : o.sg[i]? = some ("stopped" : Str) := by
  have hi := (List.getElem?_eq_some_iff.mp h).1
  rw [R.ll] at hi
  have e := List.getElem?_eq_getElem hi
  obtain ⟨g, l, ns, a, b, c, d⟩ := R.sg i _ e
  rw [h] at b
  cases b
  rcases d with ⟨_, _, q⟩ | ⟨q, _⟩ | ⟨_, _, q, _⟩
  · cases q
  · rw [e, q]
  · cases q
theorem Rel.rg {i : Nat} {z : Str} (h : o.sg[i]? = some z) : 0 ≤ (i : Int) ∧ (i : Int) < (o.sg.length : Int) := by
  have := (List.getElem?_eq_some_iff.mp h).1
  omega
theorem rel_step {D D' : Deed} {x y : Out} {M' : Lm} {o' : Of} (e : D = D') (h : StepM M D x M') (k : StepO o D' y o') : x = y ∧ Rel o' M' ∧ Wf o' := by
  have sl : (M.ly.length : Int) = (o.sg.length : Int) := by rw [R.ly, W.sl]
  have ig : ∀ {i i' : Nat}, (i : Int) = (i' : Int) → i = i' := fun h => by omega
  have mgo : ∀ {i : Nat} {b : Bool}, M.go[i]? = some b → ∃ z, o.sg[i]? = some z := fun {i b} h => by
    have hi := (List.getElem?_eq_some_iff.mp h).1
    rw [R.gl] at hi
    exact ⟨_, List.getElem?_eq_getElem hi⟩
  have mlo : ∀ {i : Nat} {b : Option Int}, M.lo[i]? = some b → ∃ z, o.sg[i]? = some z := fun {i b} h => by
    have hi := (List.getElem?_eq_some_iff.mp h).1
    rw [R.ll] at hi
    exact ⟨_, List.getElem?_eq_getElem hi⟩
  have ogo : ∀ {i : Nat}, M.go[i]? = some true → o.sg[i]? = some ("going" : Str) := fun h => (R.goLow W h).2.1
  have hle : ∀ i, M.ly.getD i [] = o.le.getD i [] := fun i => by rw [R.ly]
  have leI : ∀ {i : Nat} {z : Str}, o.sg[i]? = some z → i < o.le.length := fun {i z} h => by
    rw [← W.sl]
    exact (List.getElem?_eq_some_iff.mp h).1
  cases h with
  | @noDesk D d hd h =>
    have no : ∀ {i : Nat} {z : Str}, D.desk = some (i : Int) → o.sg[i]? = some z → False := fun {i z} h1 h2 => by
      rw [hd] at h1
      cases h1
      have := R.rg W h2
      omega
    subst e
    cases k with
    | noDesk _ _ => exact ⟨rfl, R, W⟩
    | stopped hd2 _ h2 _ => exact (no hd2 h2).elim
    | noCount hg _ => exact (no rfl hg).elim
    | noRoom hg _ _ => exact (no rfl hg).elim
    | lend hg _ _ => exact (no rfl hg).elim
    | noWord hg _ => exact (no rfl hg).elim
    | short hg _ _ => exact (no rfl hg).elim
    | report hg _ _ => exact (no rfl hg).elim
    | back hg _ _ => exact (no rfl hg).elim
    | stop hg => exact (no rfl hg).elim
    | settleNone h2 _ => exact (no rfl h2).elim
    | settleCount h2 _ => exact (no rfl h2).elim
    | settle h2 _ _ _ _ => exact (no rfl h2).elim
    | noNumber _ => cases hd
    | twice _ _ => cases hd
    | notThere _ _ _ => cases hd
    | found _ _ _ _ => cases hd
  | @stopped D i hd hs hgo =>
    obtain ⟨z, hz⟩ := mgo hgo
    have ng := R.noGo W hgo hz
    have no : ∀ {i' : Nat}, D.desk = some (i' : Int) → o.sg[i']? = some ("going" : Str) → False := fun {i'} h1 h2 => by
      rw [hd] at h1
      have := ig (Option.some.inj h1)
      subst this
      rw [hz] at h2
      exact ng (Option.some.inj h2)
    subst e
    cases k with
    | noDesk hd2 h2 =>
      rw [hd] at hd2
      cases hd2
      have := R.rg W hz
      omega
    | stopped _ _ _ _ => exact ⟨rfl, R, W⟩
    | noCount hg _ => exact (no rfl hg).elim
    | noRoom hg _ _ => exact (no rfl hg).elim
    | lend hg _ _ => exact (no rfl hg).elim
    | noWord hg _ => exact (no rfl hg).elim
    | short hg _ _ => exact (no rfl hg).elim
    | report hg _ _ => exact (no rfl hg).elim
    | back hg _ _ => exact (no rfl hg).elim
    | stop hg => exact (no rfl hg).elim
    | settleNone h2 _ => exact absurd rfl hs
    | settleCount h2 _ => exact absurd rfl hs
    | settle h2 _ _ _ _ => exact absurd rfl hs
    | noNumber _ => cases hd
    | twice _ _ => cases hd
    | notThere _ _ _ => cases hd
    | found _ _ _ _ => cases hd
  | noCount hg h =>
    have hz := ogo hg
    cases k with
    | noDesk hd2 h2 =>
      subst e
      cases hd2
      have := R.rg W hz
      omega
    | stopped hd2 _ h2 h3 =>
      subst e
      have := ig (Option.some.inj hd2)
      subst this
      rw [hz] at h2
      exact absurd (Option.some.inj h2).symm h3
    | noCount =>
      injection e with e1 e2
      have e3 := ig e1
      subst e3
      subst e2
      exact ⟨rfl, R, W⟩
    | noRoom h2 h3 h4 =>
      injection e with e1 e2
      have e3 := ig e1
      subst e3
      subst e2
      exact absurd h3 (by omega)
    | lend h2 h3 h4 =>
      injection e with e1 e2
      have e3 := ig e1
      subst e3
      subst e2
      exact absurd h3 (by omega)
    | noWord => cases e
    | short => cases e
    | report => cases e
    | back => cases e
    | stop => cases e
    | settleNone => cases e
    | settleCount => cases e
    | settle => cases e
    | noNumber => cases e
    | twice => cases e
    | notThere => cases e
    | found => cases e
  | noRoom hg h hf =>
    have hz := ogo hg
    cases k with
    | noDesk hd2 h2 =>
      subst e
      cases hd2
      have := R.rg W hz
      omega
    | stopped hd2 _ h2 h3 =>
      subst e
      have := ig (Option.some.inj hd2)
      subst this
      rw [hz] at h2
      exact absurd (Option.some.inj h2).symm h3
    | noCount h2 h3 =>
      injection e with e1 e2
      have e3 := ig e1
      subst e3
      subst e2
      exact absurd h (by omega)
    | noRoom =>
      injection e with e1 e2
      have e3 := ig e1
      subst e3
      subst e2
      exact ⟨rfl, R, W⟩
    | lend h2 h3 h4 =>
      injection e with e1 e2
      have e3 := ig e1
      subst e3
      subst e2
      exact absurd ((R.fit W _ _).mpr h4.1) (hf _)
    | noWord => cases e
    | short => cases e
    | report => cases e
    | back => cases e
    | stop => cases e
    | settleNone => cases e
    | settleCount => cases e
    | settle => cases e
    | noNumber => cases e
    | twice => cases e
    | notThere => cases e
    | found => cases e
  | @lend i m f hg h hf =>
    have hz := ogo hg
    cases k with
    | noDesk hd2 h2 =>
      subst e
      cases hd2
      have := R.rg W hz
      omega
    | stopped hd2 _ h2 h3 =>
      subst e
      have := ig (Option.some.inj hd2)
      subst this
      rw [hz] at h2
      exact absurd (Option.some.inj h2).symm h3
    | noCount h2 h3 =>
      injection e with e1 e2
      have e3 := ig e1
      subst e3
      subst e2
      exact absurd h (by omega)
    | noRoom h2 h3 h4 =>
      injection e with e1 e2
      have e3 := ig e1
      subst e3
      subst e2
      exact absurd ((R.fit W _ _).mp hf.1) (h4 _)
    | @lend _ _ f2 h2 h3 h4 =>
      injection e with e1 e2
      have e3 := ig e1
      subst e3
      subst e2
      have e4 : f = f2 := (R.leastM W hf).uniq h4
      subst e4
      exact ⟨rfl, rel_lend R W hg h h4.1, wf_lend W h4.1 (leI hz) (by omega)⟩
    | noWord => cases e
    | short => cases e
    | report => cases e
    | back => cases e
    | stop => cases e
    | settleNone => cases e
    | settleCount => cases e
    | settle => cases e
    | noNumber => cases e
    | twice => cases e
    | notThere => cases e
    | found => cases e
  | noWord hg h =>
    have hz := ogo hg
    cases k with
    | noDesk hd2 h2 =>
      subst e
      cases hd2
      have := R.rg W hz
      omega
    | stopped hd2 _ h2 h3 =>
      subst e
      have := ig (Option.some.inj hd2)
      subst this
      rw [hz] at h2
      exact absurd (Option.some.inj h2).symm h3
    | noWord =>
      injection e with e1 e2
      have e3 := ig e1
      subst e3
      subst e2
      exact ⟨rfl, R, W⟩
    | short h2 h3 h4 =>
      injection e with e1 e2
      have e3 := ig e1
      subst e3
      subst e2
      exact absurd h3 h
    | report h2 h3 h4 =>
      injection e with e1 e2
      have e3 := ig e1
      subst e3
      subst e2
      exact absurd h3 h
    | noCount => cases e
    | noRoom => cases e
    | lend => cases e
    | back => cases e
    | stop => cases e
    | settleNone => cases e
    | settleCount => cases e
    | settle => cases e
    | noNumber => cases e
    | twice => cases e
    | notThere => cases e
    | found => cases e
  | short hg h hl =>
    have hz := ogo hg
    cases k with
    | noDesk hd2 h2 =>
      subst e
      cases hd2
      have := R.rg W hz
      omega
    | stopped hd2 _ h2 h3 =>
      subst e
      have := ig (Option.some.inj hd2)
      subst this
      rw [hz] at h2
      exact absurd (Option.some.inj h2).symm h3
    | noWord h2 h3 =>
      injection e with e1 e2
      have e3 := ig e1
      subst e3
      subst e2
      exact absurd h h3
    | short =>
      injection e with e1 e2
      have e3 := ig e1
      subst e3
      subst e2
      exact ⟨rfl, R, W⟩
    | report h2 h3 h4 =>
      injection e with e1 e2
      have e3 := ig e1
      subst e3
      subst e2
      rw [hle] at hl
      exact absurd h4 (by omega)
    | noCount => cases e
    | noRoom => cases e
    | lend => cases e
    | back => cases e
    | stop => cases e
    | settleNone => cases e
    | settleCount => cases e
    | settle => cases e
    | noNumber => cases e
    | twice => cases e
    | notThere => cases e
    | found => cases e
  | @report i ws hg h hl =>
    have hz := ogo hg
    cases k with
    | noDesk hd2 h2 =>
      subst e
      cases hd2
      have := R.rg W hz
      omega
    | stopped hd2 _ h2 h3 =>
      subst e
      have := ig (Option.some.inj hd2)
      subst this
      rw [hz] at h2
      exact absurd (Option.some.inj h2).symm h3
    | noWord h2 h3 =>
      injection e with e1 e2
      have e3 := ig e1
      subst e3
      subst e2
      exact absurd h h3
    | short h2 h3 h4 =>
      injection e with e1 e2
      have e3 := ig e1
      subst e3
      subst e2
      rw [hle] at hl
      exact absurd h4 (by omega)
    | report h2 h3 h4 =>
      injection e with e1 e2
      have e3 := ig e1
      subst e3
      subst e2
      have hns : o.le[i]? = some (o.le[i]'(leI hz)) := List.getElem?_eq_getElem _
      exact ⟨by rw [hle], rel_report R W hg h h4, wf_report W hns ws (by rw [le_at hns] at h4; exact h4)⟩
    | noCount => cases e
    | noRoom => cases e
    | lend => cases e
    | back => cases e
    | stop => cases e
    | settleNone => cases e
    | settleCount => cases e
    | settle => cases e
    | noNumber => cases e
    | twice => cases e
    | notThere => cases e
    | found => cases e
  | @back i ns hg h hs =>
    have hz := ogo hg
    cases k with
    | noDesk hd2 h2 =>
      subst e
      cases hd2
      have := R.rg W hz
      omega
    | stopped hd2 _ h2 h3 =>
      subst e
      have := ig (Option.some.inj hd2)
      subst this
      rw [hz] at h2
      exact absurd (Option.some.inj h2).symm h3
    | back h2 h3 h4 =>
      injection e with e1
      have e3 := ig e1
      subst e3
      have hns : o.le[i]? = some (o.le[i]'(leI hz)) := List.getElem?_eq_getElem _
      rw [hle] at h
      have e5 := PySem.W.ksm_same (h.trans h3.symm) hs h4
      exact ⟨by rw [e5], rel_back R W hg, wf_back W hns⟩
    | noCount => cases e
    | noRoom => cases e
    | lend => cases e
    | noWord => cases e
    | short => cases e
    | report => cases e
    | stop => cases e
    | settleNone => cases e
    | settleCount => cases e
    | settle => cases e
    | noNumber => cases e
    | twice => cases e
    | notThere => cases e
    | found => cases e
  | @stop i hg =>
    have hz := ogo hg
    cases k with
    | noDesk hd2 h2 =>
      subst e
      cases hd2
      have := R.rg W hz
      omega
    | stopped hd2 _ h2 h3 =>
      subst e
      have := ig (Option.some.inj hd2)
      subst this
      rw [hz] at h2
      exact absurd (Option.some.inj h2).symm h3
    | stop h2 =>
      injection e with e1
      have e3 := ig e1
      subst e3
      exact ⟨by rw [hle], rel_stop R W hg, wf_stop W i⟩
    | noCount => cases e
    | noRoom => cases e
    | lend => cases e
    | noWord => cases e
    | short => cases e
    | report => cases e
    | back => cases e
    | settleNone => cases e
    | settleCount => cases e
    | settle => cases e
    | noNumber => cases e
    | twice => cases e
    | notThere => cases e
    | found => cases e
  | @settleNone i m h =>
    obtain ⟨z, hz⟩ := mlo h
    cases k with
    | noDesk hd2 h2 =>
      subst e
      cases hd2
      have := R.rg W hz
      omega
    | stopped hd2 hs _ _ =>
      subst e
      exact absurd rfl hs
    | settleNone h2 h3 => exact ⟨rfl, R, W⟩
    | settleCount h2 _ =>
      injection e with e1 e2
      have e3 := ig e1
      subst e3
      exact absurd rfl (R.loNone W h h2)
    | settle h2 _ _ _ _ =>
      injection e with e1 e2
      have e3 := ig e1
      subst e3
      exact absurd rfl (R.loNone W h h2)
    | noCount => cases e
    | noRoom => cases e
    | lend => cases e
    | noWord => cases e
    | short => cases e
    | report => cases e
    | back => cases e
    | stop => cases e
    | noNumber => cases e
    | twice => cases e
    | notThere => cases e
    | found => cases e
  | @settleCount i m kk h hm =>
    have hz := R.loSome W h
    obtain ⟨_, k2, ns, e2, hns, hk2, hlu⟩ := R.ofStop W hz
    rw [h] at e2
    cases e2
    have hgd := le_at hns
    rw [hle, hgd] at hm
    cases k with
    | noDesk hd2 h2 =>
      subst e
      cases hd2
      have := R.rg W hz
      omega
    | stopped hd2 hs _ _ =>
      subst e
      exact absurd rfl hs
    | settleNone h2 h3 =>
      injection e with e1 e2
      have e3 := ig e1
      subst e3
      rw [hz] at h2
      exact absurd (Option.some.inj h2).symm h3
    | settleCount h2 _ => exact ⟨rfl, R, W⟩
    | settle h2 h3 h4 _ _ =>
      injection e with e1 e2
      have e3 := ig e1
      subst e3
      subst e2
      rw [hgd, hlu] at h3
      rw [hgd] at h4
      exact absurd ⟨h3, h4⟩ hm
    | noCount => cases e
    | noRoom => cases e
    | lend => cases e
    | noWord => cases e
    | short => cases e
    | report => cases e
    | back => cases e
    | stop => cases e
    | noNumber => cases e
    | twice => cases e
    | notThere => cases e
    | found => cases e
  | @settle i m kk ms h h1 h2 hp hs =>
    have hz := R.loSome W h
    obtain ⟨hgf, k2, ns, e2, hns, hk2, hlu⟩ := R.ofStop W hz
    rw [h] at e2
    cases e2
    have hgd := le_at hns
    rw [hle, hgd] at h2 hp
    cases k with
    | noDesk hd2 h3 =>
      subst e
      cases hd2
      have := R.rg W hz
      omega
    | stopped hd2 hs _ _ =>
      subst e
      exact absurd rfl hs
    | settleNone h3 h4 =>
      injection e with e1 e2
      have e3 := ig e1
      subst e3
      rw [hz] at h3
      exact absurd (Option.some.inj h3).symm h4
    | settleCount h3 h4 =>
      injection e with e1 e2
      have e3 := ig e1
      subst e3
      subst e2
      rw [hgd, hlu] at h4
      exact absurd ⟨h1, h2⟩ h4
    | settle h3 h4 h5 h6 h7 =>
      injection e with e1 e2
      have e3 := ig e1
      subst e3
      subst e2
      rw [hgd] at h6
      have e5 := PySem.W.ksm_same (hp.trans h6.symm) hs h7
      exact ⟨by rw [e5], rel_settle R W hns hgf h (by omega) (by omega), wf_settle W hns⟩
    | noCount => cases e
    | noRoom => cases e
    | lend => cases e
    | noWord => cases e
    | short => cases e
    | report => cases e
    | back => cases e
    | stop => cases e
    | noNumber => cases e
    | twice => cases e
    | notThere => cases e
    | found => cases e
  | @noNumber n h =>
    cases k with
    | noDesk hd2 h3 =>
      subst e
      cases hd2
    | stopped hd2 hs _ _ =>
      subst e
      cases hd2
    | noNumber _ =>
      injection e with e1
      subst e1
      exact ⟨rfl, R, W⟩
    | twice h2 _ =>
      injection e with e1
      subst e1
      exact absurd (by rw [R.tp]; exact h2) h
    | notThere h2 _ _ =>
      injection e with e1
      subst e1
      exact absurd (by rw [R.tp]; exact h2) h
    | found h2 _ _ _ =>
      injection e with e1
      subst e1
      exact absurd (by rw [R.tp]; exact h2) h
    | noCount => cases e
    | noRoom => cases e
    | lend => cases e
    | noWord => cases e
    | short => cases e
    | report => cases e
    | back => cases e
    | stop => cases e
    | settleNone => cases e
    | settleCount => cases e
    | settle => cases e
  | @twice n h ht =>
    cases k with
    | noDesk hd2 h3 =>
      subst e
      cases hd2
    | stopped hd2 hs _ _ =>
      subst e
      cases hd2
    | noNumber h2 =>
      injection e with e1
      subst e1
      exact absurd (by rw [← R.tp]; exact h) h2
    | twice h2 _ =>
      injection e with e1
      subst e1
      exact ⟨rfl, R, W⟩
    | notThere h2 h3 _ =>
      injection e with e1
      subst e1
      exact absurd ((R.twice W h2.1 h2.2).mp ht) h3
    | found h2 h3 _ _ =>
      injection e with e1
      subst e1
      exact absurd ((R.twice W h2.1 h2.2).mp ht) h3
    | noCount => cases e
    | noRoom => cases e
    | lend => cases e
    | noWord => cases e
    | short => cases e
    | report => cases e
    | back => cases e
    | stop => cases e
    | settleNone => cases e
    | settleCount => cases e
    | settle => cases e
  | @notThere n h ht hh =>
    cases k with
    | noDesk hd2 h3 =>
      subst e
      cases hd2
    | stopped hd2 hs _ _ =>
      subst e
      cases hd2
    | noNumber h2 =>
      injection e with e1
      subst e1
      exact absurd (by rw [← R.tp]; exact h) h2
    | twice h2 h3 =>
      injection e with e1
      subst e1
      exact absurd ((R.twice W h2.1 h2.2).mpr h3) ht
    | notThere h2 h3 _ =>
      injection e with e1
      subst e1
      exact ⟨rfl, R, W⟩
    | found h2 h3 h4 h5 =>
      injection e with e1
      subst e1
      obtain ⟨i', ns, l, j, e1, hns, hl, hj, hm⟩ := R.hold W h4
      have e2 := ig e1
      subst e2
      rcases hh with q | ⟨i2, ns2, a, b, c⟩
      · exact absurd hm (q _ ns (by rw [R.ly]; exact hns))
      · rw [R.ly] at a
        have e3 := row_uniq W hns a hm b
        subst e3
        rw [ogo c] at h5
        exact absurd (Option.some.inj h5) (show ¬ (("going" : Str) = "stopped") by decide +kernel)
    | noCount => cases e
    | noRoom => cases e
    | lend => cases e
    | noWord => cases e
    | short => cases e
    | report => cases e
    | back => cases e
    | stop => cases e
    | settleNone => cases e
    | settleCount => cases e
    | settle => cases e
  | @found n i ns h ht e4 hm hg =>
    cases k with
    | noDesk hd2 h3 =>
      subst e
      cases hd2
    | stopped hd2 hs _ _ =>
      subst e
      cases hd2
    | noNumber h2 =>
      injection e with e1
      subst e1
      exact absurd (by rw [← R.tp]; exact h) h2
    | twice h2 h3 =>
      injection e with e1
      subst e1
      exact absurd ((R.twice W h2.1 h2.2).mpr h3) ht
    | notThere h2 h3 h4 =>
      injection e with e1
      subst e1
      rw [R.ly] at e4
      have e5 := ((W.own i ns e4).2 n hm).2.2
      obtain ⟨z, hz⟩ := mgo hg
      refine absurd ?_ (h4 i e5)
      obtain ⟨l, hl⟩ := R.low W i e4
      obtain ⟨z', a, d⟩ := R.stage W i e4 hl hg
      rcases d with ⟨_, q, _⟩ | ⟨q, _⟩ | ⟨_, _, _, q⟩
      · cases q
      · rw [a, q]
      · rw [List.length_eq_zero_iff.mp q] at hm
        cases hm
    | @found _ i2 h2 h3 h4 h5 =>
      injection e with e1
      subst e1
      rw [R.ly] at e4
      have e5 := ((W.own i ns e4).2 n hm).2.2
      rw [e5] at h4
      have e6 := ig (Option.some.inj h4)
      subst e6
      obtain ⟨_, k2, ns2, e7, hns2, hk2, _⟩ := R.ofStop W h5
      rw [e4] at hns2
      cases hns2
      exact ⟨rfl, rel_found R W e4 hg e7 hk2 hm, wf_found W i n⟩
    | noCount => cases e
    | noRoom => cases e
    | lend => cases e
    | noWord => cases e
    | short => cases e
    | report => cases e
    | back => cases e
    | stop => cases e
    | settleNone => cases e
    | settleCount => cases e
    | settle => cases e
end
end Nu
namespace Nu
open PySem PySem.Spec PyProof.Rows L2
def hoV : Option Int → V
  | some d => .int d
  | none => .non
section
variable {P : Program} {w : World} {K : PySem.W.Frag} {mg : Str → Option Value} {base : Heap} {a : Ad} {fd : Fd}
theorem ok_state_of (T : Txt K mg a fd) : FnOk P w K mg base (L2.CX P w) 2 a.state_of fd.state_of ["office", "number"] (spState a) := by
  have G_Office_state := ok_Office_state (P := P) (w := w) (base := base) T
  refine T.F_state_of.okX sc_state_of (fun vs H Q E h => ?_) (fun cdv A outer s H vs Q E hr h => ?_)
  · obtain ⟨F, o, n, rfl, _⟩ := h
    rfl
  · obtain ⟨F, o, n, rfl, O, hn, k1, k2⟩ := h
    have hu := hu_of hr
    refine ⟨_, (pss_one (ps_ret (pe_meth (pv 0) T.cl T.m_Office_state G_Office_state (hr.mono (by decide)) T.b_Office_state .nil passU (pa_cons (pv 1) pa_nil)))), ?_⟩
    exact ⟨_, rfl, F.p, F.dx, _, rfl, O.ob, ofl_m F, _, rfl, F, o, n, rfl, O, hn, k1, k2⟩
end
end Nu
namespace Nu
open PySem PySem.Spec PyProof.Rows L2
/-- the script's draws, apart from G -/
structure Scr (K : PySem.W.Frag) (H : Hp) (s sc : Addr) (ns : List Int) (G : List Addr) : Prop where
  d : Drw K H s sc ns
  s : s ∉ G
  c : SqL K (fun _ => none) sc (ns.map V.int) ∨ sc ∉ G
theorem Drw.stay2 {K : PySem.W.Frag} {H H' : Hp} {s sc : Addr} {ns : List Int} {F : List Addr} (d : Drw K H s sc ns) (k : Keep F H H') (h1 : s ∉ F) (h2 : SqL K (fun _ => none) sc (ns.map V.int) ∨ sc ∉ F) : Drw K H' s sc ns := by
  rcases h2 with q | q
  · obtain ⟨i, m, r, e, h⟩ := d.at_
    exact ⟨.inl q, i, m, r, k _ _ e h1, h⟩
  · exact d.stay k h1 fun _ => q
theorem Scr.go {K : PySem.W.Frag} {H H' : Hp} {s sc : Addr} {ns : List Int} {G W G' : List Addr} (h : Scr K H s sc ns G) (k : Keep W H H') (hW : ∀ c ∈ W, c ∈ G ∨ H c = none) (hG : ∀ c ∈ G', c ∈ G ∨ H c = none) : Scr K H' s sc ns G' := by
  have sh : H s ≠ none := by
    obtain ⟨i, m, r, e, _⟩ := h.d.at_
    rw [e]
    simp
  have key : ∀ L : List Addr, (∀ c ∈ L, c ∈ G ∨ H c = none) → s ∉ L ∧ (SqL K (fun _ => none) sc (ns.map V.int) ∨ sc ∉ L) := fun L hL => by
    refine ⟨fun z => (hL s z).elim h.s sh, ?_⟩
    rcases h.c with q | q
    · exact .inl q
    · rcases h.d.sq with q2 | q2
      · exact .inl q2
      · refine .inr fun z => (hL sc z).elim q fun e => ?_
        rcases q2.1 with g | ⟨ob, g⟩ <;> rw [e] at g <;> cases g
  exact ⟨h.d.stay2 k (key W hW).1 (key W hW).2, (key G' hG).1, (key G' hG).2⟩
def refsV : V → List Addr
  | .ref r => [r]
  | _ => []
theorem mem_refs {v : V} {c : Addr} (h : c ∈ refsV v) : v = .ref c := by
  cases v with
  | ref r => rw [List.mem_singleton.mp h]
  | _ => cases h
theorem Keep.mono {F G : List Addr} {H H' : Hp} (k : Keep F H H') (h : ∀ c ∈ F, c ∈ G) : Keep G H H' := fun c u e n => k c u e fun z => n (h c z)
theorem OutAt.mono {H H' : Hp} {v : V} {x : Out} (h : OutAt H v x) (k : ∀ r u, v = .ref r → H r = some u → H' r = some u) : OutAt H' v x := by
  cases x with
  | word z => exact h
  | pair f l =>
    obtain ⟨t, e, h⟩ := h
    exact ⟨t, e, k _ _ e h⟩
  | nums ns =>
    obtain ⟨t, e, h⟩ := h
    exact ⟨t, e, k _ _ e h⟩
  | non => exact h
theorem OutAt.has {H : Hp} {v : V} {x : Out} (h : OutAt H v x) : ∀ c ∈ refsV v, ∃ u, H c = some u := by
  intro c hc
  have e := mem_refs hc
  cases x with
  | word z =>
    have h : v = .str z := h
    rw [h] at e
    cases e
  | pair f l =>
    obtain ⟨t, e2, h⟩ := h
    rw [e] at e2
    cases e2
    exact ⟨_, h⟩
  | nums ns =>
    obtain ⟨t, e2, h⟩ := h
    rw [e] at e2
    cases e2
    exact ⟨_, h⟩
  | non =>
    have h : v = .non := h
    rw [h] at e
    cases e
def Out.le : Out → Prop
  | .nums ns => ns.length ≤ 400
  | _ => True
theorem StepM.le {M M' : Lm} {D : Deed} {x : Out} (h : StepM M D x M') (W : WfM M) : x.le := by
  have gl : ∀ d, (M.ly.getD d []).length ≤ 400 := fun d => by
    rw [List.getD_eq_getElem?_getD]
    cases e : M.ly[d]? with
    | none => exact Nat.zero_le _
    | some ns => exact W.len d ns e
  cases h with
  | report hg h hl =>
    refine Nat.le_trans (List.length_take_le' _ _) ?_
    exact gl _
  | @back i ns hg h hs =>
    show ns.length ≤ 400
    rw [h.length_eq]
    exact gl i
  | stop hg => exact gl _
  | @settle i m k ns h h1 h2 hp hs =>
    show ns.length ≤ 400
    rw [hp.length_eq, List.length_drop]
    have := gl i
    omega
  | _ => exact True.intro
theorem smd_out {H : Hp} {v v' : V} {x : Out} (h : OutAt H v x) (h' : OutAt H v' x) (hx : x.le) : SmD H 2 v v' := by
  cases x with
  | word z =>
    rw [show v = .str z from h, show v' = .str z from h']
    exact .inl ⟨rfl, rfl⟩
  | non =>
    rw [show v = .non from h, show v' = .non from h']
    exact .inl ⟨rfl, rfl⟩
  | pair f l =>
    obtain ⟨t, rfl, h⟩ := h
    obtain ⟨t', rfl, h'⟩ := h'
    refine .inr ⟨t, t', _, _, false, rfl, rfl, h, h', rfl, (by show 2 ≤ 1000; decide), fun i u v e1 e2 => .inl ?_⟩
    rw [e1] at e2
    cases e2
    match i, e1 with
    | 0, e1 =>
      cases e1
      exact ⟨rfl, rfl⟩
    | 1, e1 =>
      cases e1
      exact ⟨rfl, rfl⟩
    | i + 2, e1 => simp at e1
  | nums ns =>
    obtain ⟨t, rfl, h⟩ := h
    obtain ⟨t', rfl, h'⟩ := h'
    exact smd_ints h h' (Nat.le_trans hx (by decide))
theorem DeedAt.sub {H : Hp} {G G' : List Addr} {t : Addr} {D : Deed} (h : DeedAt H G t D) (g : ∀ c ∈ G', c ∈ G) : DeedAt H G' t D :=
  h.mono (Keep.refl _ _) fun _ _ n z => n (g _ z)
theorem StepO.sgl {o o' : Of} {D : Deed} {x : Out} (h : StepO o D x o') : o'.sg.length = o.sg.length := by
  cases h with
  | report _ _ _ => exact congrArg List.length (lets_top _ _).2.1
  | back _ _ _ => exact congrArg List.length (lets_top _ _).2.1
  | stop _ => exact List.length_set
  | settle _ _ _ _ _ => exact List.length_set
  | _ => rfl
theorem ifS_join {tc : TT} {tt : TS} {D : Ends} {σ : L2.St} {H : Hp} (P : L2.St → Hp → Prop) (h : ∀ nx : L2.St → Hp → Prop, (∀ σ' H', P σ' H' → nx σ' H') → tIfS tc tt tNext { D with nx := nx } σ H) (hn : ∀ σ' H', P σ' H' → D.nx σ' H') : tIfS tc tt tNext D σ H := h D.nx hn
end Nu
namespace Nu
open PySem PySem.Spec PyProof.Rows L2
theorem Rel.holdM {o : Of} {M : Lm} (R : Rel o M) (W : Wf o) (n : Int) : (o.ho n = none ∧ ∀ (i : Nat) (ns : List Int), M.ly[i]? = some ns → n ∉ ns) ∨ ∃ (i : Nat) (ns : List Int), o.ho n = some (i : Int) ∧ M.ly[i]? = some ns ∧ n ∈ ns := by
  cases q : o.ho n with
  | none =>
    refine .inl ⟨rfl, fun i ns e hm => ?_⟩
    rw [R.ly] at e
    have := ((W.own i ns e).2 n hm).2.2
    rw [q] at this
    cases this
  | some d =>
    obtain ⟨i, ns, l, j, rfl, h, _, _, hm⟩ := R.hold W q
    exact .inr ⟨i, ns, rfl, by rw [R.ly]; exact h, hm⟩
theorem holder_sp {H : Hp} {A : La} {M : Lm} {o : Of} {n : Int} {Q : VK} {E : XK} (L : Lw H A M) (R : Rel o M) (W : Wf o) (q : Q (hoV (o.ho n)) H) : spLHolder [.ref A.m, .int n] H Q E := by
  refine ⟨A, M, n, rfl, L, by rw [R.ly]; exact W.d6, fun hno => ?_, fun i ns e hm _ => ?_⟩
  · rcases R.holdM W n with ⟨h, _⟩ | ⟨i, ns, _, e, hm⟩
    · rw [h] at q
      exact q
    · exact absurd hm (hno i ns e)
  · rw [R.ly] at e
    have := ((W.own i ns e).2 n hm).2.2
    rw [this] at q
    exact q
section
variable {P : Program} {w : World} {K : PySem.W.Frag} {mg : Str → Option Value} {base : Heap} {a : Ad} {fd : Fd}
def spLState : Sp := fun vs H Q _ => ∃ (A : La) (M : Lm) (o : Of) (n : Int), vs = [.ref A.m, .int n] ∧ Lw H A M ∧ Rel o M ∧ Wf o ∧ 1 ≤ n ∧ n ≤ (o.top : Int) ∧ ∀ H', Same H H' → Q (.str (o.st n)) H'
theorem ok_l_state (T : Txt K mg a fd) : FnOk P w K mg base CX0 2 a.l_state fd.l_state ["_law_m", "_law_number"] spLState := by
  have G_l_holder := ok_l_holder (P := P) (w := w) (base := base) T
  refine T.F_l_state.ok sc_l_state (fun vs H Q E h => ?_) (fun cdv A0 outer s H vs Q E hr h => ?_)
  · obtain ⟨A, M, o, n, rfl, _⟩ := h
    rfl
  · obtain ⟨A, M, o, n, rfl, L, R, W, n1, n2, k⟩ := h
    have hu := hu_of hr
    refine ⟨_, (pss_cons (ps_if (pt_cmp (pc_din hu (pv 1) (pe_dget hu (pv 0) pe_str (fun _ _ => rfl)))) (pss_one (ps_ret (pe_dget hu (pe_dget hu (pv 0) pe_str (fun _ _ => rfl)) (pv 1) (fun _ _ => rfl)))) pss_nil)
    (pss_cons (ps_set (i := 2) sc_l_state.nd rfl (Or.inl rfl) (pe_call G_l_holder (hr.mono (by decide)) (by rfl) T.g_l_holder T.F_l_holder.kp T.b_l_holder .nil pass0 (pa_cons (pv 0) (pa_cons (pv 1) pa_nil))))
    (pss_cons (ps_if (pt_cmpR op_isN (pv 2) pe_non (nomark _)) (pss_one (ps_ret pe_str)) pss_nil)
    (pss_cons (ps_if (pt_val (pe_ix ix_list (pe_dget hu (pv 0) pe_str (fun _ _ => rfl)) (pv 2) (fun _ _ => rfl))) (pss_one (ps_ret pe_str)) pss_nil)
    (pss_cons (ps_if (pt_cmp (pc_din hu (pv 1) (pe_dget hu (pv 0) pe_str (fun _ _ => rfl)))) (pss_one (ps_ret pe_str)) pss_nil)
    (pss_one (ps_ret (pe_ix ix_list (pe_lst (pa_cons pe_str (pa_cons pe_str pa_nil))) (pe_callTy call_int1 (by rfl) T.n_int (by decide +kernel) (pa_cons (pe_cmpR op_lt (pe_bm PySem.F.plainAttrs_list PySem.F.slot_list_index PySem.F.type_list_index mt_index (pe_ix ix_list (pe_dget hu (pv 0) pe_str (fun _ _ => rfl)) (pv 2) (fun _ _ => rfl)) (pa_cons (pv 1) pa_nil)) (pe_ix ix_list (pe_dget hu (pv 0) pe_str (fun _ _ => rfl)) (pv 2) (fun _ _ => rfl)) (nomark _)) pa_nil)) (fun _ _ => rfl))))))))), ?_⟩
    obtain ⟨kw, ew, qw⟩ := L.wd
    obtain ⟨ks, es, qs⟩ := L.sn
    refine ⟨_, rfl, ?_⟩
    refine rd_mw L rfl ?_
    refine ⟨A.dW, _, rfl, DGet.k (k := Sum.inl n) ew, _, rfl, ?_⟩
    rw [qw.at_ n]
    cases c : M.wd n with
    | some z =>
      refine iteT ?_
      refine rd_mw L rfl ⟨_, rfl, A.dW, _, rfl, (by have e := DGet.k (k := Sum.inl n) ew; rw [qw.at_ n, c] at e; exact e), ?_⟩
      have e := (R.wd n z c).1
      have k := k H (Same.refl _)
      rw [e] at k
      exact k
    | none =>
      refine iteF ?_
      refine ⟨_, rfl, _, rfl, ?_⟩
      dsimp only [tNil]
      refine holder_sp L R W ?_
      rcases R.holdM W n with ⟨h, _⟩ | ⟨i, ns, h, e, hm⟩
      · rw [h]
        refine ⟨_, rfl, rfl, _, rfl, iteT ?_⟩
        have e := R.fr n n1 n2 c h
        have k := k H (Same.refl _)
        rw [e] at k
        exact k
      · rw [h]
        have hle : o.le[i]? = some ns := by rw [← R.ly]; exact e
        obtain ⟨l, hl⟩ := R.low W i hle
        have hix : ns.idxOf n < ns.length := List.idxOf_lt_length_of_mem hm
        have hnj : ns[ns.idxOf n]? = some n := by rw [List.getElem?_eq_getElem hix, List.getElem_idxOf]
        have hst := (R.at_ i ns l _ n hle hl hnj).2
        have hgi : i < M.go.length := by
          rw [R.gl, W.sl]
          exact (List.getElem?_eq_some_iff.mp hle).1
        have hg : M.go[i]? = some M.go[i] := List.getElem?_eq_getElem hgi
        obtain ⟨z, hz, sd⟩ := R.stage W i hle hl hg
        refine ⟨_, rfl, rfl, _, rfl, iteF ?_⟩
        rcases sd with ⟨_, g1, l1⟩ | ⟨_, g1, kk, l1, hkk⟩ | ⟨_, _, _, l1⟩
        · rw [g1] at hg
          refine rd_mg1 L rfl rfl hg ⟨_, rfl, iteT ?_⟩
          have k := k H (Same.refl _)
          rw [hst, l1] at k
          exact k
        · rw [g1] at hg
          refine rd_mg1 L rfl rfl hg ⟨_, rfl, iteF ?_⟩
          refine ⟨_, rfl, ?_⟩
          refine rd_ms L rfl ?_
          refine ⟨A.dN, _, rfl, DGet.k (k := Sum.inl n) es, _, rfl, ?_⟩
          rw [qs.at_ n]
          by_cases c3 : M.sn n = true
          · rw [if_pos c3]
            refine iteT ?_
            have k := k H (Same.refl _)
            rw [hst, l1, c3] at k
            exact k
          · rw [if_neg c3]
            refine iteF ?_
            refine ⟨(by show 2 ≤ sizeLine; decide), fun l2 n2 => ?_⟩
            have L2 := L.upd_new (o := .lst [V.str "rest", V.str "used"]) n2
            have hi : i < M.ly.length := (List.getElem?_eq_some_iff.mp e).1
            have hl1 : A.ys[i]? = some (A.ys[i]'(by rw [L.ll]; exact hi)) := List.getElem?_eq_getElem _
            have hrow := L2.each i _ _ hl1 e
            have hat : (ns.map V.int)[ns.idxOf n]? = some (.int n) := by
              rw [List.getElem?_map, hnj]
              rfl
            refine rd_my1 L2 rfl rfl hl1 ?_
            refine ⟨.inl ⟨rfl, _, SqL.of hrow⟩, _, rfl, A.ys[i]'(by rw [L.ll]; exact hi), ns.map V.int, .int n, ns.idxOf n, .int n, rfl, rfl, SqL.of hrow, rfl, flat_ints ns, hat, eqV_refl n, (fun m z' hm' e' => idx_before hm' e'), ?_⟩
            rw [l1] at hl
            refine rd_ml1 L2 rfl rfl hl ?_
            refine ⟨_, _, rfl, rfl, ?_⟩
            refine .inr ⟨_, rfl, ?_⟩
            have k := k _ (same_upd (o := .lst [V.str "rest", V.str "used"]) n2)
            rw [hst, l1] at k
            have es : StN (some (kk : Int)) (M.sn n) (ns.idxOf n) = if ((ns.idxOf n : Nat) : Int) < (kk : Int) then ("used" : Str) else ("rest" : Str) := by
              show (if M.sn n = true then ("paper" : Str) else if ((ns.idxOf n : Nat) : Int) < (kk : Int) then "used" else "rest") = _
              rw [if_neg c3]
            rw [es] at k
            by_cases c4 : ((ns.idxOf n : Nat) : Int) < (kk : Int)
            · rw [if_pos c4] at k
              rw [decide_eq_true c4]
              exact ⟨l2, _, (1 : Int), _, rfl, rfl, SqL.of upd_same, rfl, k⟩
            · rw [if_neg c4] at k
              rw [decide_eq_false c4]
              exact ⟨l2, _, (0 : Int), _, rfl, rfl, SqL.of upd_same, rfl, k⟩
        · rw [List.length_eq_zero_iff.mp l1] at hm
          cases hm
end
end Nu
namespace Nu
open PySem PySem.Spec PyProof.Rows L2
section
variable {P : Program} {w : World} {K : PySem.W.Frag} {mg : Str → Option Value} {base : Heap} {ad : Ad} {fd : Fd}
def spIs (a : Ad) : Sp := fun vs H Q _ => ∃ (F : Fp) (o : Of) (A : La) (M : Lm), vs = [.ref F.p, .ref A.m] ∧ Off a H F o ∧ Wf o ∧ Lw H A M ∧ RelI o M ∧ ∀ H', Same H H' → Q (.bl true) H'
theorem ok_l_is (T : Txt K mg ad fd) : FnOk P w K mg base CX0 5 ad.l_is fd.l_is ["_law_office_here", "_law_m"] (spIs ad) := by
  have G_Office_open_numbers := ok_Office_open_numbers (P := P) (w := w) (base := base) T
  have G_Office_rest := ok_Office_rest (P := P) (w := w) (base := base) T
  have G_l_same := ok_l_same (P := P) (w := w) (base := base) T 3
  refine T.F_l_is.ok sc_l_is (fun vs H Q E h => ?_) (fun cdv A0 outer s H vs Q E hr h => ?_)
  · obtain ⟨F, o, A, M, rfl, _⟩ := h
    rfl
  · obtain ⟨F, o, A, M, rfl, O, W, L, R, k⟩ := h
    have hu := hu_of hr
    refine ⟨_, (pss_cons (ps_for PassesOwn.never rfl (pi_range1 (by rfl) T.n_range (pa_cons (pe_callB call_len_seq (by rfl) T.n_len PySem.boot_len (pa_cons (pe_dget hu (pv 1) pe_str (fun _ _ => rfl)) pa_nil)) pa_nil)) (pg_name (i := 2) sc_l_is.nd rfl (Or.inl rfl))
      (pss_cons (ps_set (i := 3) sc_l_is.nd rfl (Or.inl rfl) (pe_lst (pa_cons (pe_callTy call_list_of (by rfl) T.n_list (by decide +kernel) (pa_cons (pe_ix ix_list (pe_dget hu (pv 1) pe_str (fun _ _ => rfl)) (pv 2) (fun _ _ => rfl)) pa_nil)) (pa_cons (pe_lst pa_nil) pa_nil))))
    (pss_cons (ps_if (pt_not (pt_val (pe_ix ix_list (pe_dget hu (pv 1) pe_str (fun _ _ => rfl)) (pv 2) (fun _ _ => rfl)))) (pss_one (ps_expr (pe_bm0 PySem.F.plainAttrs_list PySem.F.slot_list_reverse PySem.F.type_list_reverse mt_reverse (pv 3)))) pss_nil)
    (pss_one (ps_if (pt_not (pt_val (pe_call G_l_same (hr.mono (by decide)) (by rfl) T.g_l_same T.F_l_same.kp T.b_l_same .nil pass0 (pa_cons (pe_lst (pa_cons (pe_meth (pv 0) T.cl T.m_Office_open_numbers G_Office_open_numbers (hr.mono (by decide)) T.b_Office_open_numbers .nil passL (pa_cons (pv 2) pa_nil)) (pa_cons (pe_meth (pv 0) T.cl T.m_Office_rest G_Office_rest (hr.mono (by decide)) T.b_Office_rest .nil passL (pa_cons (pv 2) pa_nil)) pa_nil))) (pa_cons (pv 3) pa_nil))))) (pss_one (ps_ret pe_bl)) pss_nil)))))
    (pss_one (ps_ret pe_bl))), ?_⟩
    have d6 := W.d6
    have lyl : A.ys.length = o.le.length := by rw [L.ll, R.ly]
    refine rd_my L rfl ?_
    refine ⟨A.aY, _, rfl, .inl (SqL.of L.ly), _, rfl, by omega, by rw [List.length_map]; omega, ?_⟩
    refine for_range (lo := 0) (n := (((A.ys.map V.ref).length : Nat) : Int).toNat) (fun i σ H' => ∃ (v2 v3 : Option V), σ = [some (.ref F.p), some (.ref A.m), v2, v3] ∧ Same H H') ⟨none, none, rfl, Same.refl _⟩ ?_ ?_
    · rintro i σ H1 hi ⟨v2, v3, rfl, s1⟩
      have hi : i < o.le.length := by rw [List.length_map] at hi; omega
      have hsl := W.sl
      have hns : o.le[i]? = some o.le[i] := List.getElem?_eq_getElem hi
      have hsg : o.sg[i]? = some (o.sg[i]'(by omega)) := List.getElem?_eq_getElem _
      have hly : M.ly[i]? = some o.le[i] := by rw [R.ly]; exact hns
      have hl1 : A.ys[i]? = some (A.ys[i]'(by omega)) := List.getElem?_eq_getElem _
      obtain ⟨r1, r2⟩ := R.go i _ hsg
      have lennum := Wf.len400 W hns
      have e0 : (0 : Int) + (i : Int) = (i : Int) := by omega
      have hgd : o.le.getD i [] = o.le[i] := le_at hns
      have L1 : Lw H1 A M := L.stay fun c _ u e => s1 c u e
      -- due
      refine rd_my1 (d := i) L1 rfl (by rw [e0]; rfl) hl1 ?_
      refine ⟨_, _, rfl, .inl (SqL.of (L1.each i _ _ hl1 hly)), fun x1 n1 => ⟨Nat.zero_le _, fun x2 n2 => ⟨(by show 2 ≤ sizeLine; decide), fun x3 n3 => ?_⟩⟩⟩
      have ne12 : x1 ≠ x2 := fun q => by rw [← q, upd_same] at n2; cases n2
      have ne13 : x1 ≠ x3 := fun q => by rw [← q, upd_ne ne12, upd_same] at n3; cases n3
      have ne23 : x2 ≠ x3 := fun q => by rw [← q, upd_same] at n3; cases n3
      have s3 : Same H (upd (upd (upd H1 x1 (.lst (o.le[i].map V.int))) x2 (.lst [])) x3 (.lst [V.ref x1, V.ref x2])) := ((s1.trans (same_upd n1)).trans (same_upd n2)).trans (same_upd n3)
      have g1 : (upd (upd (upd H1 x1 (.lst (o.le[i].map V.int))) x2 (.lst [])) x3 (.lst [V.ref x1, V.ref x2])) x1 = some (.lst (o.le[i].map V.int)) := by rw [upd_ne ne13, upd_ne ne12]; exact upd_same
      have g2 : (upd (upd (upd H1 x1 (.lst (o.le[i].map V.int))) x2 (.lst [])) x3 (.lst [V.ref x1, V.ref x2])) x2 = some (.lst (([] : List Int).map V.int)) := by rw [upd_ne ne23]; exact upd_same
      have g3 : (upd (upd (upd H1 x1 (.lst (o.le[i].map V.int))) x2 (.lst [])) x3 (.lst [V.ref x1, V.ref x2])) x3 = some (.lst [V.ref x1, V.ref x2]) := upd_same
      generalize upd (upd (upd H1 x1 (.lst (o.le[i].map V.int))) x2 (.lst [])) x3 (.lst [V.ref x1, V.ref x2]) = H3 at s3 g1 g2 g3
      have L3 : Lw H3 A M := L.stay fun c _ u e => s3 c u e
      refine rd_mg1 (d := i) L3 rfl (by rw [e0]; rfl) r1 ⟨_, rfl, ?_⟩
      have fin : ∀ (y z : List Int) (x4 x5 : Addr) (H4 : Hp) (v2 : Option V), Same H H4 → H4 x4 = some (.lst (y.map V.int)) → H4 x5 = some (.lst (z.map V.int)) → H4 x3 = some (.lst [V.ref x4, V.ref x5]) →
          y = (if o.sg[i]'(by omega) = "going" then o.le[i] else []) → z = (if o.sg[i]'(by omega) = "stopped" then o.le[i] else []) →
          ∀ (R2 : V → Hp → Prop), (∀ H5, Same H H5 → R2 (.bl true) H5) →
          tCall (spSame 3) [] E0 (tCons (tLst (tCons (tMeth ad.C "open_numbers" (spOpen ad) [] E0 (tVar 0) (tCons (tVar 2) tNil)) (tCons (tMeth ad.C "rest" (spRest ad) [] E0 (tVar 0) (tCons (tVar 2) tNil)) tNil))) (tCons (tVar 3) tNil)) [some (.ref F.p), some (.ref A.m), some (.int (i : Int)), some (.ref x3)] H4 R2 := by
        intro y z x4 x5 H4 v2 s4 h4 h5 h6 ey ez R2 hR
        have O4 : Off ad H4 F o := O.stay fun c _ u e => s4 c u e
        refine ⟨_, rfl, F.p, F.dx, _, rfl, O4.ob, ofl_m F, _, rfl, F, o, (i : Int), rfl, O4, W, log_nat (by omega), fun c => absurd (by omega) c, fun i' z' e1 e2 r nr => ?_⟩
        have ei : i' = i := by omega
        subst ei
        rw [hsg] at e2
        cases e2
        rw [hgd]
        have O5 : Off ad _ F o := O4.upd_new (o := o) (u := .lst (if o.sg[i']'(by omega) = "going" then o.le[i'].map V.int else [])) nr
        refine ⟨_, rfl, F.p, F.dx, _, rfl, O5.ob, ofl_m F, _, rfl, F, o, (i' : Int), rfl, O5, W, log_nat (by omega), fun c => absurd (by omega) c, fun i2 z2 f1 f2 q nq => ?_⟩
        have ei2 : i2 = i' := by omega
        subst ei2
        rw [hsg] at f2
        cases f2
        rw [hgd]
        have nrq : r ≠ q := fun c => by rw [← c, upd_same] at nq; cases nq
        refine ⟨(by show 2 ≤ sizeLine; decide), fun p np => ?_⟩
        have nrp : r ≠ p := fun c => by rw [← c, upd_ne nrq, upd_same] at np; cases np
        have nqp : q ≠ p := fun c => by rw [← c, upd_same] at np; cases np
        have s6 := ((same_upd (o := .lst (if o.sg[i2]'(by omega) = "going" then o.le[i2].map V.int else [])) nr).trans (same_upd (o := .lst (if o.sg[i2]'(by omega) = "stopped" then o.le[i2].map V.int else [])) nq)).trans (same_upd (o := .lst [V.ref r, V.ref q]) np)
        have hlen : ∀ (c : Prop) [Decidable c], (if c then o.le[i2] else []).length ≤ 1000 := fun c _ => by
          by_cases h : c
          · rw [if_pos h]; omega
          · rw [if_neg h]; exact Nat.zero_le _
        refine ⟨_, rfl, .ref p, .ref x3, rfl, smd_pair (a := r) (b := q) (c := x4) (d := x5) upd_same (s6 _ _ h6) ?_ ?_, fun H7 s7 => hR H7 ((s4.trans s6).trans s7)⟩
        · refine smd_ints (ns := y) ?_ (s6 _ _ h4) (by rw [ey]; exact hlen _)
          rw [upd_ne nrp, upd_ne nrq, upd_same, ey]
          by_cases c : o.sg[i2]'(by omega) = "going"
          · rw [if_pos c, if_pos c]
          · rw [if_neg c, if_neg c]
            rfl
        · refine smd_ints (ns := z) ?_ (s6 _ _ h5) (by rw [ez]; exact hlen _)
          rw [upd_ne nqp, upd_same, ez]
          by_cases c : o.sg[i2]'(by omega) = "stopped"
          · rw [if_pos c, if_pos c]
          · rw [if_neg c, if_neg c]
            rfl
      rw [e0]
      by_cases c : o.sg[i]'(by omega) = "going"
      · rw [decide_eq_true c]
        refine iteF ?_
        refine fin _ _ x1 x2 H3 none s3 g1 g2 g3 (by rw [if_pos c]) (by rw [if_neg (by rw [c]; decide +kernel)]) _ fun H5 s5 => ⟨_, rfl, iteF ⟨_, _, rfl, s5⟩⟩
      · rw [decide_eq_false c]
        refine iteT ?_
        refine ⟨_, rfl, .inl ⟨rfl, _, SqL.of g3⟩, x3, _, rfl, rfl, g3, ?_⟩
        have x3H : H x3 = none := by
          have h1 := n3
          have a1 : x3 ≠ x1 := Ne.symm ne13
          have a2 : x3 ≠ x2 := Ne.symm ne23
          rw [upd_ne a2, upd_ne a1] at h1
          exact s1.free h1
        have s4 : Same H (upd H3 x3 (.lst [V.ref x1, V.ref x2].reverse)) := fun b u e => by
          rw [upd_ne (fun q => by rw [q, x3H] at e; cases e)]
          exact s3 b u e
        refine fin _ _ x2 x1 _ none s4 (by rw [upd_ne ne23]; exact g2) (by rw [upd_ne ne13]; exact g1) upd_same (by rw [if_neg c]) ?_ _ fun H5 s5 => ⟨_, rfl, iteF ⟨_, _, rfl, s5⟩⟩
        rcases r2 with z | z | ⟨z1, z2⟩
        · exact absurd z c
        · rw [if_pos z]
        · rw [hns] at z2
          rw [if_neg (by rw [z1]; decide +kernel)]
          exact Option.some.inj z2
    · rintro σ H1 ⟨v2, v3, rfl, s1⟩
      exact k H1 s1
end
end Nu
namespace Nu
open PySem PySem.Spec PyProof.Rows L2
/-- how many numbers follow -/
def sizeOf (w : Str) : Option Int :=
  if w = "lend" then some 2 else if w = "back" then some 1 else if w = "stop" then some 1 else if w = "found" then some 1 else if w = "settle" then some 2 else none
/-! ### rules -/
theorem op_repStr {X : Cx} : OpR X (binaryOp .Mult) (fun x y H Q => ∃ i n, x = .str i ∧ y = .int n ∧ 1 < n ∧ n ≤ 1000 ∧ 1 ≤ i.length ∧ i.length ≤ 1000 ∧ ∀ z : Str, (z.length : Int) = i.length * n → Q (.str z) H) := by
  intro pins s σ H x y v u Q I rx ry h
  obtain ⟨i, n, rfl, rfl, h1, h2, h3, h4, q⟩ := h
  obtain ⟨t, rfl⟩ := rx
  obtain ⟨t', rfl⟩ := ry
  have nb : (n == 1 || i.length == 0) = false := by
    rw [Bool.or_eq_false_iff]
    exact ⟨beq_eq_false_iff_ne.mpr (by omega), beq_eq_false_iff_ne.mpr (by omega)⟩
  have hn : ¬ n < 1 := by omega
  have lz : ∀ (k : Nat) (a : Array Nat), ((List.replicate k i.cps).foldl (· ++ ·) a).size = a.size + i.length * k := by
    intro k
    induction k with
    | zero => intro a; simp
    | succ k ih =>
      intro a
      rw [List.replicate_succ, List.foldl_cons, ih, Array.size_append]
      show a.size + i.length + i.length * k = _
      rw [Nat.mul_succ]
      omega
  have hm : i.length * n.toNat ≤ 1000 * 1000 := Nat.mul_le_mul h4 (by omega)
  have len : (⟨(List.replicate n.toNat i.cps).foldl (· ++ ·) #[]⟩ : Str).length = i.length * n.toNat := by
    show ((List.replicate n.toNat i.cps).foldl (· ++ ·) #[]).size = _
    rw [lz]
    simp
  refine PySem.P.mul_str (by rw [decide_eq_false (by omega), decide_eq_false (by omega)]; rfl) (fun _ _ => ?_) (fun _ _ => ?_) ?_
  · have : (i.length : Int) ≤ (2 ^ 63 - 1) / n := by
      rw [Int.le_ediv_iff_mul_le (by omega)]
      have : (i.length : Int) * n ≤ 1000 * 1000 := Int.mul_le_mul (by omega) h2 (by omega) (by omega)
      omega
    omega
  · show Builtin.Str.tooLong (i.length * n.toNat) = false
    unfold Builtin.Str.tooLong
    exact decide_eq_false (by rw [sizeLine_eq]; omega)
  · rw [if_neg hn, if_neg (by rw [nb]; exact Bool.false_ne_true)]
    refine ⟨by rw [len, sizeLine_eq]; omega, ⟨.str _, H, I.tok _, ⟨_, rfl⟩, q _ ?_⟩⟩
    rw [len, Int.natCast_mul, Int.toNat_of_nonneg (by omega)]
/-- the written dict of sizes -/
def NumD (K : PySem.W.Frag) (w : World) (d : Addr) : Prop := ∃ es n, KDict K w d es n ∧ ∀ x : Str, ∃ o, PySem.W.nsIn K d x = some o ∧ (match sizeOf x with
  | some z => ∃ t, o = some (.int z t)
  | none => o = none)
def tKGet1 (K : PySem.W.Frag) (w : World) (td ty : TE) : TE := fun σ H Q => td σ H fun x H1 => ∃ d, x = .ref d ∧ NumD K w d ∧ ty σ H1 fun y H2 => ∃ z : Str, y = .str z ∧ Q (match sizeOf z with | some k => .int k | none => .non) H2
theorem pe_kget1 {X : Cx} {o e : Expr} {apos cpos : Pos} {td ty : TE} (ho : PE X o td) (he : PE X e ty) (m : M1 X o "get" apos e cpos) : PE X (.Call (.Attribute o "get" apos) [e] [] cpos) (tKGet1 X.K X.w td ty) := by
  refine ⟨fun pins s σ H Q I h => ?_⟩
  refine wpAny_Call_method m.base m.few m.line PySem.F.plainAttrs_dict PySem.F.slot_dict_get PySem.F.type_dict_get (thn (ho.run pins s σ H _ I h) fun u s1 ⟨x, H1, I1, rx, d, ex, nd, q1⟩ => ?_)
  subst ex
  obtain rfl : u = Value.ref d := rx
  obtain ⟨es, n, D, hx⟩ := nd
  have hm1 := PySem.W.mapOf_K (prog := X.prog) (w := X.w) I1.kIn D.at_ D.lit
  refine ⟨hm1.typeIs, fun b q => ?_, ?_⟩
  · cases q
    exact ⟨_, I1.kIn _ _ D.at_, rfl⟩
  rw [m.trees]
  refine Calls.callWith_builtin rfl (Calls.evalArgs_plain (Calls.spliced_cons (thn (he.run pins s1 σ H1 _ I1 q1) fun iv s2 ⟨y, H2, I2, ry, z, ey, q2⟩ => Calls.spliced_nil ?_)))
  subst ey
  obtain ⟨t, rfl⟩ := (show ∃ t, iv = Value.str z t from ry)
  have hm2 := PySem.W.mapOf_K (prog := X.prog) (w := X.w) I2.kIn D.at_ D.lit
  obtain ⟨r, hr, hz⟩ := hx z
  refine call_meetsIn PySem.F.slot_dict_get hm2.typeIs PySem.F.entry_dict_get (PySem.F.args_dict_get_2 _ _) (meets_dict_get (strKind X.prog X.w) d (strKind_is X.prog X.w z t) D.low) ⟨_, hm2, ?_⟩
  rw [PySem.W.find_K D.at_ hr]
  cases hs : sizeOf z with
  | none =>
    rw [hs] at q2 hz
    rw [show r = none from hz]
    exact ⟨.non, H2, I2.tok _, rfl, q2⟩
  | some k =>
    rw [hs] at q2 hz
    obtain ⟨t', rfl⟩ := hz
    exact ⟨.int k, H2, I2.tok _, ⟨_, rfl⟩, q2⟩
end Nu
namespace Nu
open PySem PySem.Spec PyProof.Rows L2
/-! ### words and deeds -/
def isFig (c : Nat) : Bool := decide (c ∈ ([48, 49, 50, 51, 52, 53, 54, 55, 56, 57] : List Nat))
def numOk (x : Str) : Bool := decide (1 ≤ x.length) && decide (x.length ≤ 60) && !(decide (x.cps.toList[0]? = some 48) && decide (1 < x.length)) && x.cps.toList.all isFig
def numV (x : Str) : Int := ((NumText.digitsVal (TL.tl x) : Nat) : Int)
def wordOk (x : Str) : Bool := decide (x = "paper") || decide (x = "spoilt")
def rd : List Str → Option Deed
  | [] => none
  | w :: r =>
    if w = "report" then (match r with
      | a :: b :: t => if (numOk a && (b :: t).all wordOk) = true then some (.report (numV a) (b :: t)) else none
      | _ => none)
    else if w = "lend" then (match r with
      | [a, b] => if (numOk a && numOk b) = true then some (.lend (numV a) (numV b)) else none
      | _ => none)
    else if w = "settle" then (match r with
      | [a, b] => if (numOk a && numOk b) = true then some (.settle (numV a) (numV b)) else none
      | _ => none)
    else if w = "back" then (match r with
      | [a] => if numOk a = true then some (.back (numV a)) else none
      | _ => none)
    else if w = "stop" then (match r with
      | [a] => if numOk a = true then some (.stop (numV a)) else none
      | _ => none)
    else if w = "found" then (match r with
      | [a] => if numOk a = true then some (.found (numV a)) else none
      | _ => none)
    else none
theorem numOk_len {x : Str} (h : numOk x = true) : 1 ≤ x.length ∧ x.length ≤ 60 := by
  unfold numOk at h
  simp only [Bool.and_eq_true, decide_eq_true_eq] at h
  exact ⟨h.1.1.1, h.1.1.2⟩
theorem numOk_fig {x : Str} (h : numOk x = true) : ∀ c ∈ TL.tl x, 48 ≤ c ∧ c ≤ 57 := by
  unfold numOk at h
  simp only [Bool.and_eq_true] at h
  intro c hc
  have := List.all_eq_true.mp h.2 c hc
  have q := of_decide_eq_true this
  simp at q
  omega
theorem numOk_int {x : Str} (h : numOk x = true) : intText? x = some (numV x) := by
  have e := SX.int_S (a := TL.tl x) (List.all_eq_true.mpr fun c hc => by
    have := numOk_fig h c hc
    rw [decide_eq_true this.1, decide_eq_true this.2]
    rfl) (fun z => by
    have := (numOk_len h).1
    rw [TL.len_tl, z] at this
    exact absurd this (by decide)) (by
    have := (numOk_len h).2
    rw [TL.len_tl] at this
    omega)
  rw [SX.S_tl] at e
  exact e
theorem val_lt : ∀ (l : List Nat), (∀ c ∈ l, 48 ≤ c ∧ c ≤ 57) → ∀ a : Nat, l.foldl (fun acc c => acc * 10 + (c - 48)) a < (a + 1) * 10 ^ l.length
  | [], _, a => by simp
  | c :: r, h, a => by
    have h1 := val_lt r (fun x hx => h x (List.mem_cons_of_mem _ hx)) (a * 10 + (c - 48))
    have h2 := h c List.mem_cons_self
    rw [List.foldl_cons, List.length_cons, Nat.pow_succ]
    have : (a * 10 + (c - 48) + 1) * 10 ^ r.length ≤ ((a + 1) * 10) * 10 ^ r.length := Nat.mul_le_mul_right _ (by omega)
    have e : (a + 1) * 10 * 10 ^ r.length = (a + 1) * (10 ^ r.length * 10) := by rw [Nat.mul_assoc, Nat.mul_comm 10]
    omega
theorem numOk_ok {x : Str} (h : numOk x = true) : 0 ≤ numV x ∧ IntOk (numV x) := by
  have h1 := val_lt (TL.tl x) (numOk_fig h) 0
  have h2 := (numOk_len h).2
  rw [TL.len_tl] at h2
  refine ⟨Int.natCast_nonneg _, ?_⟩
  show (((NumText.digitsVal (TL.tl x) : Nat) : Int)).natAbs.log2 < 1920
  rw [Int.natAbs_natCast]
  have h3 : NumText.digitsVal (TL.tl x) < 10 ^ 60 := by
    have : 10 ^ (TL.tl x).length ≤ 10 ^ 60 := Nat.pow_le_pow_right (by decide) h2
    have : NumText.digitsVal (TL.tl x) < (0 + 1) * 10 ^ (TL.tl x).length := h1
    omega
  by_cases z : NumText.digitsVal (TL.tl x) = 0
  · rw [z]
    decide
  · rw [Nat.log2_lt z]
    exact Nat.lt_trans h3 (by decide +kernel)
theorem rd_ok {ws : List Str} {D : Deed} (h : rd ws = some D) (hl : ws.length ≤ 1000) : D.Ok := by
  unfold rd at h
  cases ws with
  | nil => cases h
  | cons w r =>
    dsimp only at h
    rw [List.length_cons] at hl
    split at h
    · split at h
      · rename_i a b t
        split at h
        · rename_i c
          rw [Bool.and_eq_true] at c
          cases h
          rw [List.length_cons] at hl
          refine ⟨(numOk_ok c.1).2, fun x hx => ?_, by omega⟩
          have := List.all_eq_true.mp c.2 x hx
          unfold wordOk at this
          rw [Bool.or_eq_true] at this
          rcases this with q | q
          · rw [of_decide_eq_true q]
            decide +kernel
          · rw [of_decide_eq_true q]
            decide +kernel
        · cases h
      · cases h
    split at h
    · split at h
      · split at h
        · rename_i c
          rw [Bool.and_eq_true] at c
          cases h
          exact ⟨(numOk_ok c.1).2, (numOk_ok c.2).2⟩
        · cases h
      · cases h
    split at h
    · split at h
      · split at h
        · rename_i c
          rw [Bool.and_eq_true] at c
          cases h
          exact ⟨(numOk_ok c.1).2, (numOk_ok c.2).2⟩
        · cases h
      · cases h
    split at h
    · split at h
      · split at h
        · rename_i c
          cases h
          exact (numOk_ok c).2
        · cases h
      · cases h
    split at h
    · split at h
      · split at h
        · rename_i c
          cases h
          exact (numOk_ok c).2
        · cases h
      · cases h
    split at h
    · split at h
      · split at h
        · rename_i c
          cases h
          exact (numOk_ok c).2
        · cases h
      · cases h
    · cases h
end Nu
namespace Nu
open PySem PySem.Spec PyProof.Rows L2
theorem one_eq (c d : Nat) : decide (V.str ⟨#[c]⟩ = V.str ⟨#[d]⟩) = decide (c = d) := by
  by_cases h : c = d
  · rw [h, decide_eq_true rfl, decide_eq_true rfl]
  · rw [decide_eq_false h, decide_eq_false fun z => h (by
      injection z with z
      injection z with z
      have := congrArg Array.toList z
      injection this)]
theorem fig_in (c : Nat) : (!(Builtin.Str.occurrences ("0123456789" : Str) ⟨#[c]⟩ 0 ("0123456789" : Str).length 1).isEmpty) = isFig c := SX.in_one [48, 49, 50, 51, 52, 53, 54, 55, 56, 57] c
theorem all_snoc {f : Nat → Bool} {l : List Nat} {j c : Nat} (h : l[j]? = some c) : (l.take (j + 1)).map (fun x => V.bl (f x)) = (l.take j).map (fun x => V.bl (f x)) ++ [V.bl (f c)] := by
  rw [take_snoc h, List.map_append]
  rfl
theorem all_idm {f : Str → Bool} (l : List Str) : (l.map f).all id = l.all f := by
  rw [List.all_map]
  rfl
theorem all_map {f : Nat → Bool} (l : List Nat) : (l.map f).all id = l.all f := by
  rw [List.all_map]
  rfl
section
variable {P : Program} {w : World} {K : PySem.W.Frag} {mg : Str → Option Value} {base : Heap} {a : Ad} {fd : Fd}
def spIsNumber : Sp := fun vs H Q _ => ∃ x : Str, vs = [.str x] ∧ x.length ≤ 100000 ∧ ∀ H', Same H H' → Q (.bl (numOk x)) H'
theorem ok_is_number (T : Txt K mg a fd) : FnOk P w K mg base CX0 1 a.is_number fd.is_number ["word"] spIsNumber := by
  refine T.F_is_number.ok sc_is_number (fun vs H Q E h => ?_) (fun cdv A outer s0 H vs Q E hr h => ?_)
  · obtain ⟨x, rfl, _⟩ := h
    rfl
  · obtain ⟨x, rfl, hl, k⟩ := h
    have hz : x.length ≤ sizeLine := by rw [sizeLine_eq]; omega
    refine ⟨_, (pss_cons (ps_if (PW.pt (pw_or (pt_cmpR op_lt (pe_callB call_len_str (by rfl) T.n_len PySem.boot_len (pa_cons (pv 0) pa_nil)) pe_int (nomark _)) (pw_or1 (pt_cmpR op_gt (pe_callB call_len_str (by rfl) T.n_len PySem.boot_len (pa_cons (pv 0) pa_nil)) (pe_gi (by rfl) T.g_MOST_FIGURES) (nomark _))))) (pss_one (ps_ret pe_bl)) pss_nil)
    (pss_cons (ps_if (PW.pt (pw_and (pt_cmpR op_eq (pe_ix ix_str (pv 0) pe_int (fun _ _ => rfl)) pe_str (nomark _)) (pw_and1 (pt_cmpR op_gt (pe_callB call_len_str (by rfl) T.n_len PySem.boot_len (pa_cons (pv 0) pa_nil)) pe_int (nomark _))))) (pss_one (ps_ret pe_bl)) pss_nil)
    (pss_one (ps_ret (pe_callB (cr_all rfl) (by rfl) T.n_all (by decide +kernel) (pa_cons (pe_lc (own := [("figure", 1)]) (g := gName 1) (by rfl) sc_is_number.nd (pi_str (pv 0)) (blkOk_by (own := [("figure", 1)]) (N := ["word", "figure"]) (sc := defScope s_is_number) (by decide +kernel)) (fun _ _ _ _ _ => pg_name (i := 1) sc_is_number.nd rfl (Or.inl rfl)) (fun _ _ _ _ _ => pts_nil) (fun _ _ _ _ _ => (pe_cmpR op_in_str (pv 1) (pe_gs (by rfl) T.g_FIGURES) (by rfl)))) pa_nil)))))), ?_⟩
    have no : ∀ {b : Bool}, numOk x = b → ∀ H', Same H H' → Q (.bl b) H' := fun e H' s => by
      have := k H' s
      rw [e] at this
      exact this
    refine ⟨_, rfl, x, rfl, hz, _, _, rfl, rfl, _, rfl, ?_⟩
    by_cases c1 : (x.length : Int) < 1
    · rw [decide_eq_true c1]
      refine iteT (iteT ?_)
      refine no ?_ _ (Same.refl H)
      unfold numOk
      rw [decide_eq_false (by omega)]
      rfl
    · rw [decide_eq_false c1]
      refine iteF ?_
      refine ⟨_, rfl, x, rfl, hz, _, _, rfl, rfl, _, rfl, ?_⟩
      by_cases c2 : (x.length : Int) > 60
      · rw [decide_eq_true c2]
        refine iteT ?_
        refine no ?_ _ (Same.refl H)
        unfold numOk
        rw [decide_eq_false (show ¬ x.length ≤ 60 by omega), Bool.and_false]
        rfl
      · rw [decide_eq_false c2]
        refine iteF ?_
        refine next_go ?_
        dsimp only
        refine seq_go ?_
        have lx : x.cps.toList.length = x.length := by simp [Str.length]
        obtain ⟨c, r, ex⟩ : ∃ c r, x.cps.toList = c :: r := by
          cases q : x.cps.toList with
          | nil => rw [q] at lx; simp at lx; omega
          | cons c r => exact ⟨c, r, rfl⟩
        have num : numOk x = (!(decide (c = 48) && decide (1 < x.length)) && x.cps.toList.all isFig) := by
          unfold numOk
          rw [decide_eq_true (show 1 ≤ x.length by omega), decide_eq_true (show x.length ≤ 60 by omega), ex]
          have : decide ((c :: r)[0]? = some 48) = decide (c = 48) := by
            by_cases h : c = 48
            · rw [h]; rfl
            · rw [decide_eq_false h]
              exact decide_eq_false fun z => h (Option.some.inj z)
          rw [this]
          rfl
        rw [num] at no
        refine ifS_two (fun H1 => H1 = H ∧ (decide (c = 48) && decide (1 < x.length)) = true) (fun H1 => H1 = H ∧ (decide (c = 48) && decide (1 < x.length)) = false) (fun Q' q1 q0 => ?_) ?_ ?_
        · refine ⟨_, rfl, x, _, c, rfl, rfl, hz, atI_nat (j := 0) (by rw [ex]; rfl), rfl, _, rfl, ?_⟩
          rw [show decide (V.str ⟨#[c]⟩ = V.str "0") = decide (c = 48) from one_eq c 48]
          by_cases c3 : c = 48
          · rw [decide_eq_true c3] at q1 q0 ⊢
            refine iteT ?_
            refine ⟨_, rfl, x, rfl, hz, _, _, rfl, rfl, _, rfl, ?_⟩
            by_cases c4 : 1 < x.length
            · rw [decide_eq_true (show (1 : Int) < (x.length : Int) by omega)]
              exact q1 H ⟨rfl, by rw [decide_eq_true c4]; rfl⟩
            · rw [decide_eq_false (show ¬ (1 : Int) < (x.length : Int) by omega)]
              exact q0 H ⟨rfl, by rw [decide_eq_false c4]; rfl⟩
          · rw [decide_eq_false c3] at q1 q0 ⊢
            refine iteF ?_
            exact q0 H ⟨rfl, rfl⟩
        · rintro H1 ⟨rfl, e⟩
          exact no (by rw [e]; rfl) _ (Same.refl _)
        · rintro H1 ⟨rfl, e⟩
          refine next_go ?_
          rw [e] at no
          dsimp only
          have sz : x.cps.size = x.cps.toList.length := by simp
          refine ⟨_, rfl, x, rfl, fun D nD => ?_⟩
          refine lc_it walk_str (fun j H' => Same H1 H' ∧ H' D = some (.lst (((x.cps.toList.map isFig).take j).map V.bl))) ⟨same_upd nD, upd_same⟩ (fun _ _ _ _ => trivial) ?_ ?_
          · rintro j v H2 H2' hj ⟨s2, hD⟩ ⟨rfl, c', hc', rfl⟩
            refine ⟨wipe1 _ _ _, ?_⟩
            dsimp only [tYes]
            rw [if_pos rfl]
            have hc2 : (x.cps.toList.map isFig)[j]? = some (isFig c') := by
              rw [List.getElem?_map, Array.getElem?_toList, hc']
              rfl
            refine ⟨_, rfl, _, _, rfl, rfl, ?_⟩
            rw [show (!(Builtin.Str.occurrences (Str.ofString "0123456789") ⟨#[c']⟩ 0 (Str.ofString "0123456789").length 1).isEmpty) = isFig c' from fig_in c']
            refine ⟨_, hD, by rw [List.length_map, List.length_take, sizeLine_eq]; omega, fun a u z => ?_, ?_⟩
            · rw [upd_ne (fun q => by rw [q, nD] at z; cases z)]
              exact s2 _ _ z
            · rw [upd_same, take_snoc hc2, List.map_append]
              rfl
          · rintro H2 ⟨s2, hD⟩
            rw [sz, List.take_of_length_le (by rw [List.length_map]; exact Nat.le_refl _)] at hD
            refine ⟨D, _, rfl, SqL.of hD, ?_⟩
            refine no ?_ _ s2
            rw [List.all_map]
            rfl
def spAreReported : Sp := fun vs H Q _ => ∃ (p : Addr) (ws : List Str), vs = [.ref p] ∧ H p = some (.lst (ws.map V.str)) ∧ ws.length ≤ 1000 ∧ ∀ H', Same H H' → Q (.bl (ws.all wordOk)) H'
theorem ok_are_reported (T : Txt K mg a fd) : FnOk P w K mg base CX0 1 a.are_reported fd.are_reported ["words"] spAreReported := by
  refine T.F_are_reported.ok sc_are_reported (fun vs H Q E h => ?_) (fun cdv A outer s0 H vs Q E hr h => ?_)
  · obtain ⟨p, ws, rfl, _⟩ := h
    rfl
  · obtain ⟨p, ws, rfl, hp, hl, k⟩ := h
    refine ⟨_, (pss_one (ps_ret (pe_callB (cr_all rfl) (by rfl) T.n_all (by decide +kernel) (pa_cons (pe_lc (own := [("word", 1)]) (g := gName 1) (by rfl) sc_are_reported.nd (pi_list (pv 0)) (blkOk_by (own := [("word", 1)]) (N := ["words", "word"]) (sc := defScope s_are_reported) (by decide +kernel)) (fun _ _ _ _ _ => pg_name (i := 1) sc_are_reported.nd rfl (Or.inl rfl)) (fun _ _ _ _ _ => pts_nil) (fun _ _ _ _ _ => (pe_cmpR (inSeq_K (K := K) rfl) (pv 1) (pe_tup (pa_cons (pe_gs (by rfl) T.g_PAPER) (pa_cons (pe_gs (by rfl) T.g_SPOILT) pa_nil))) (by rfl)))) pa_nil)))), ?_⟩
    refine ⟨_, rfl, p, rfl, ⟨_, SqL.of hp⟩, fun D nD => ?_⟩
    refine lc_list (K := K) (a := p) (xs := ws.map V.str) (fun j H' => Same H H' ∧ H' D = some (.lst (((ws.map wordOk).take j).map V.bl))) ⟨same_upd nD, upd_same⟩ (fun j H' _ ⟨s, _⟩ => SqL.of (s _ _ hp)) ?_ ?_
    · rintro j y H1 hy ⟨s1, hD⟩
      rw [List.getElem?_map] at hy
      obtain ⟨x, ex, rfl⟩ := Option.map_eq_some_iff.mp hy
      have e2 : (ws.map wordOk)[j]? = some (wordOk x) := by rw [List.getElem?_map, ex]; rfl
      refine ⟨wipe1 _ _ _, ?_⟩
      dsimp only [tYes]
      rw [if_pos rfl]
      refine ⟨_, rfl, (by show 2 ≤ sizeLine; decide), fun t nt => ?_⟩
      have s2 : Same H1 (upd H1 t (.tup [V.str "paper", V.str "spoilt"])) := same_upd nt
      have ht : (upd H1 t (.tup [V.str "paper", V.str "spoilt"])) t = some (.tup [V.str "paper", V.str "spoilt"]) := upd_same
      refine ⟨t, _, rfl, .inr (SqT.of ht), rfl, by decide +kernel, ?_⟩
      rw [show (if false = true then !inV (V.str x) [V.str "paper", V.str "spoilt"] else inV (V.str x) [V.str "paper", V.str "spoilt"]) = wordOk x from inV_words x]
      refine ⟨_, s2 _ _ hD, by rw [List.length_map, List.length_take, List.length_map, sizeLine_eq]; omega, fun c o z => ?_, ?_⟩
      · rw [upd_ne (fun q => by rw [q, nD] at z; cases z)]
        exact s2 _ _ (s1 _ _ z)
      · rw [upd_same, take_snoc e2, List.map_append]
        rfl
    · rintro H1 ⟨s1, hD⟩
      rw [List.length_map, List.take_of_length_le (by rw [List.length_map]; exact Nat.le_refl _)] at hD
      refine ⟨D, _, rfl, SqL.of hD, ?_⟩
      have := k _ s1
      rw [← all_idm] at this
      exact this
theorem rd_report (r : List Str) : (rd ("report" :: r)).isSome = (match r with
    | a :: b :: t => numOk a && (b :: t).all wordOk
    | _ => false) := by
  unfold rd
  dsimp only
  rw [if_pos rfl]
  match r with
  | [] => rfl
  | [_] => rfl
  | a :: b :: t =>
    dsimp only
    by_cases c : (numOk a && (b :: t).all wordOk) = true
    · rw [if_pos c, c]
      rfl
    · rw [if_neg c, Bool.eq_false_iff.mpr c]
      rfl
theorem rd_else {x : Str} (h : ¬ x = "report") (r : List Str) : (rd (x :: r)).isSome = (decide (sizeOf x = some (r.length : Int)) && r.all numOk) := by
  have two : ∀ (f : Int → Int → Deed), (match r with
      | [a, b] => if (numOk a && numOk b) = true then some (f (numV a) (numV b)) else none
      | _ => none).isSome = (decide (some (2 : Int) = some (r.length : Int)) && r.all numOk) := fun f => by
    match r with
    | [] => rfl
    | [_] => rfl
    | [a, b] =>
      have e : ([a, b] : List Str).all numOk = (numOk a && numOk b) := by simp
      rw [e]
      dsimp only
      by_cases c : (numOk a && numOk b) = true
      · rw [if_pos c, c]
        rfl
      · rw [if_neg c, Bool.eq_false_iff.mpr c]
        rfl
    | a :: b :: d :: t =>
      rw [decide_eq_false (fun z => by injection z with z; simp at z; omega)]
      rfl
  have one : ∀ (f : Int → Deed), (match r with
      | [a] => if numOk a = true then some (f (numV a)) else none
      | _ => none).isSome = (decide (some (1 : Int) = some (r.length : Int)) && r.all numOk) := fun f => by
    match r with
    | [] => rfl
    | [a] =>
      have e : ([a] : List Str).all numOk = numOk a := by simp
      rw [e]
      dsimp only
      by_cases c : numOk a = true
      · rw [if_pos c, c]
        rfl
      · rw [if_neg c, Bool.eq_false_iff.mpr c]
        rfl
    | a :: b :: t =>
      rw [decide_eq_false (fun z => by injection z with z; simp at z; omega)]
      rfl
  unfold rd sizeOf
  dsimp only
  rw [if_neg h]
  by_cases c1 : x = "lend"
  · rw [if_pos c1, if_pos c1]
    exact two _
  rw [if_neg c1, if_neg c1]
  by_cases c2 : x = "settle"
  · rw [if_pos c2, c2]
    exact two _
  rw [if_neg c2]
  by_cases c3 : x = "back"
  · rw [if_pos c3, if_pos c3]
    exact one _
  rw [if_neg c3, if_neg c3]
  by_cases c4 : x = "stop"
  · rw [if_pos c4, if_pos c4]
    exact one _
  rw [if_neg c4, if_neg c4]
  by_cases c5 : x = "found"
  · rw [if_pos c5, if_pos c5]
    exact one _
  rw [if_neg c5, if_neg c5, if_neg c2]
  rfl
end
end Nu
namespace Nu
open PySem PySem.Spec PyProof.Rows L2
section
variable {P : Program} {w : World} {K : PySem.W.Frag} {mg : Str → Option Value} {base : Heap} {a : Ad} {fd : Fd}
/-- a list of words -/
structure Wds (H : Hp) (p : Addr) (ws : List Str) : Prop where
  at_ : H p = some (.lst (ws.map V.str))
  ne : ws ≠ []
  few : ws.length ≤ 1000
  len : ∀ x ∈ ws, x.length ≤ 100000
theorem Wds.same {H H' : Hp} {p : Addr} {ws : List Str} (h : Wds H p ws) (s : Same H H') : Wds H' p ws := ⟨s _ _ h.at_, h.ne, h.few, h.len⟩
def spIsDeed (K : PySem.W.Frag) (w : World) (a : Ad) : Sp := fun vs H Q _ => ∃ (p : Addr) (ws : List Str), vs = [.ref p] ∧ Wds H p ws ∧ ∀ H', Same H H' → Q (.bl (rd ws).isSome) H'
theorem ok_is_deed (T : Txt K mg a fd) (ND : NumD K w a.NUMBERS) : FnOk P w K mg base CX0 2 a.is_deed fd.is_deed ["words"] (spIsDeed K w a) := by
  have G_is_number := ok_is_number (P := P) (w := w) (base := base) T
  have G_are_reported := ok_are_reported (P := P) (w := w) (base := base) T
  refine T.F_is_deed.ok sc_is_deed (fun vs H Q E h => ?_) (fun cdv A outer s0 H vs Q E hr h => ?_)
  · obtain ⟨p, ws, rfl, _⟩ := h
    rfl
  · obtain ⟨p, ws, rfl, W, k⟩ := h
    have hp := W.at_
    have hu := hu_of hr
    refine ⟨_, (pss_cons (ps_if (pt_cmpR op_eq (pe_ix ix_list (pv 0) pe_int (fun _ _ => rfl)) (pe_gs (by rfl) T.g_REPORT) (nomark _)) (pss_one (ps_ret (pe_and (pe_cmpR op_gt (pe_callB call_len_seq (by rfl) T.n_len PySem.boot_len (pa_cons (pv 0) pa_nil)) pe_int (nomark _)) (pe_and (pe_call G_is_number (hr.mono (by decide)) (by rfl) T.g_is_number T.F_is_number.kp T.b_is_number .nil pass0 (pa_cons (pe_ix ix_list (pv 0) pe_int (fun _ _ => rfl)) pa_nil)) (pe_one (pe_call G_are_reported (hr.mono (by decide)) (by rfl) T.g_are_reported T.F_are_reported.kp T.b_are_reported .nil pass0 (pa_cons (pe_slice sl_list (pv 0) (po_some pe_int) po_none) pa_nil))))))) pss_nil)
    (pss_cons (ps_if (pt_cmpR op_ne (pe_kget1 (pe_glob (v := .ref a.NUMBERS) (by rfl) T.g_NUMBERS rfl) (pe_ix ix_list (pv 0) pe_int (fun _ _ => rfl)) ⟨rfl, rfl, rfl, rfl⟩) (pe_op op_sub (pe_callB call_len_seq (by rfl) T.n_len PySem.boot_len (pa_cons (pv 0) pa_nil)) pe_int) (nomark _)) (pss_one (ps_ret pe_bl)) pss_nil)
    (pss_one (ps_ret (pe_callB (cr_all rfl) (by rfl) T.n_all (by decide +kernel) (pa_cons (pe_lc (own := [("word", 1)]) (g := gName 1) (by rfl) sc_is_deed.nd (pi_list (pe_slice sl_list (pv 0) (po_some pe_int) po_none)) (blkOk_by (own := [("word", 1)]) (N := ["words", "word"]) (sc := defScope s_is_deed) (by decide +kernel)) (fun _ _ _ _ _ => pg_name (i := 1) sc_is_deed.nd rfl (Or.inl rfl)) (fun _ _ _ _ _ => pts_nil) (fun _ _ _ _ _ => (pe_call G_is_number (hr.mono (by decide)) (by rfl) T.g_is_number T.F_is_number.kp T.b_is_number .nil pass0 (pa_cons (pv 1) pa_nil)))) pa_nil)))))), ?_⟩
    obtain ⟨x, r, ew⟩ : ∃ x r, ws = x :: r := by
      cases ws with
      | nil => exact absurd rfl W.ne
      | cons x r => exact ⟨x, r, rfl⟩
    have few := W.few
    rw [ew] at hp k
    rw [ew, List.length_cons] at few
    refine ⟨_, rfl, p, _, 0, _, rfl, rfl, SqL.of hp, atI_nat (j := 0) rfl, rfl, _, rfl, ?_⟩
    by_cases c : x = "report"
    · rw [deqT c]
      refine iteT ?_
      rw [c, rd_report] at k
      refine ⟨_, rfl, p, _, rfl, .inl (SqL.of hp), _, _, rfl, rfl, _, rfl, ?_⟩
      have cu : ∀ (j : Nat), j ≤ (x :: r).length → cutV ((x :: r).map V.str) (some (j : Int)) none = ((x :: r).drop j).map V.str := fun j hj => by
        rw [cut_from _ _ (by rw [List.length_map]; exact hj), List.map_drop]
      match r, hp, k, few, ew, cu with
      | [], hp, k, few, ew, cu => exact k H (Same.refl H)
      | [y], hp, k, few, ew, cu => exact k H (Same.refl H)
      | y :: b :: t, hp, k, few, ew, cu =>
        rw [show decide ((2 : Int) < (((List.map V.str (x :: y :: b :: t)).length : Nat) : Int)) = true from decide_eq_true (by simp; omega)]
        refine iteT ?_
        refine ⟨_, rfl, p, _, 1, _, rfl, rfl, SqL.of hp, atI_nat (j := 1) rfl, y, rfl, W.len y (by rw [ew]; simp), fun H1 s1 => ⟨_, rfl, ?_⟩⟩
        dsimp only at k
        cases hy : numOk y with
        | false =>
          rw [hy] at k
          exact k _ s1
        | true =>
          rw [hy] at k
          refine iteT ?_
          refine ⟨_, rfl, 2, rfl, p, _, rfl, SqL.of (s1 _ _ hp), fun l nl => ?_⟩
          have e2 := cu 2 (by simp)
          refine ⟨l, b :: t, rfl, by rw [upd_same, show (some (2 : Int)) = some ((2 : Nat) : Int) from rfl, e2]; rfl, by simp at few ⊢; omega, fun H2 s2 => ?_⟩
          exact k _ ((s1.trans (same_upd nl)).trans s2)
    · rw [deqF c]
      refine iteF ?_
      rw [rd_else c] at k
      refine next_go ?_
      dsimp only
      refine seq_go ?_
      refine ifS_two (fun H1 => H1 = H ∧ decide (sizeOf x = some (r.length : Int)) = false) (fun H1 => H1 = H ∧ decide (sizeOf x = some (r.length : Int)) = true) (fun Q' q1 q0 => ?_) ?_ ?_
      · refine ⟨a.NUMBERS, rfl, ND, _, rfl, p, _, 0, _, rfl, rfl, SqL.of hp, atI_nat (j := 0) rfl, x, rfl, _, rfl, p, _, rfl, .inl (SqL.of hp), _, _, rfl, rfl, ?_⟩
        cases hs : sizeOf x with
        | none =>
          rw [hs] at q1 q0
          exact ⟨rfl, _, rfl, q1 H ⟨rfl, rfl⟩⟩
        | some z =>
          rw [hs] at q1 q0
          refine ⟨rfl, _, rfl, ?_⟩
          have el : (((List.map V.str (x :: r)).length : Nat) : Int) - 1 = (r.length : Int) := by
            rw [List.length_map, List.length_cons]
            omega
          show Q' (!decide (V.int z = V.int ((((List.map V.str (x :: r)).length : Nat) : Int) - 1))) H
          rw [el]
          by_cases c2 : z = (r.length : Int)
          · rw [show (!decide (V.int z = V.int (r.length : Int))) = false by rw [c2, decide_eq_true rfl]; rfl]
            exact q0 H ⟨rfl, decide_eq_true (by rw [c2])⟩
          · rw [show (!decide (V.int z = V.int (r.length : Int))) = true by rw [decide_eq_false (fun q => c2 (by injection q))]; rfl]
            exact q1 H ⟨rfl, decide_eq_false fun q => c2 (Option.some.inj q)⟩
      · rintro H1 ⟨rfl, e⟩
        rw [e] at k
        exact k H1 (Same.refl _)
      · rintro H1 ⟨rfl, e⟩
        rw [e] at k
        refine next_go ?_
        dsimp only
        refine ⟨_, rfl, 1, rfl, p, _, rfl, SqL.of hp, fun l nl => ?_⟩
        have e2 : cutV ((x :: r).map V.str) (some (1 : Int)) none = r.map V.str := by
          rw [show (some (1 : Int)) = some ((1 : Nat) : Int) from rfl, cut_from _ _ (by simp)]
          rfl
        rw [e2]
        have s1 : Same H1 (upd H1 l (.lst (r.map V.str))) := same_upd nl
        have hl : (upd H1 l (.lst (r.map V.str))) l = some (.lst (r.map V.str)) := upd_same
        generalize upd H1 l (.lst (r.map V.str)) = H2 at s1 hl ⊢
        refine ⟨l, rfl, ⟨_, SqL.of hl⟩, fun D nD => ?_⟩
        refine lc_list (K := K) (a := l) (xs := r.map V.str) (fun j H' => Same H2 H' ∧ H' D = some (.lst (((r.map numOk).take j).map V.bl))) ⟨same_upd nD, upd_same⟩ (fun j H' _ ⟨s, _⟩ => SqL.of (s _ _ hl)) ?_ ?_
        · rintro j y H3 hy ⟨s3, hD⟩
          rw [List.getElem?_map] at hy
          obtain ⟨z, ez, rfl⟩ := Option.map_eq_some_iff.mp hy
          have e3 : (r.map numOk)[j]? = some (numOk z) := by rw [List.getElem?_map, ez]; rfl
          refine ⟨wipe1 _ _ _, ?_⟩
          dsimp only [tYes]
          rw [if_pos rfl]
          refine ⟨_, rfl, z, rfl, W.len z (by rw [ew]; exact List.mem_cons_of_mem _ (List.mem_of_getElem? ez)), fun H4 s4 => ?_⟩
          refine ⟨_, s4 _ _ hD, by rw [List.length_map, List.length_take, List.length_map, sizeLine_eq]; omega, fun c o z => ?_, ?_⟩
          · rw [upd_ne (fun q => by rw [q, nD] at z; cases z)]
            exact s4 _ _ (s3 _ _ z)
          · rw [upd_same, take_snoc e3, List.map_append]
            rfl
        · rintro H3 ⟨s3, hD⟩
          rw [List.length_map, List.take_of_length_le (by rw [List.length_map]; exact Nat.le_refl _)] at hD
          refine ⟨D, _, rfl, SqL.of hD, ?_⟩
          have := k _ (s1.trans s3)
          rw [Bool.true_and, ← all_idm] at this
          exact this
end
end Nu
namespace Nu
open PySem PySem.Spec PyProof.Rows L2
/-- what a deed's answer is told as -/
def ansO : Out → Str
  | .word z => z
  | .pair f l => (toString f : Str) ++ "-" ++ (toString l : Str)
  | _ => "done"
theorem okS {x : Int} (h0 : 0 ≤ x) (h1 : x ≤ 1000) : x.natAbs.log2 < 1920 := by
  obtain ⟨n, rfl⟩ := Int.eq_ofNat_of_zero_le h0
  exact log_nat (by omega)
theorem len_num {x : Int} (h0 : 0 ≤ x) (h1 : x ≤ 1000) : (toString x : Str).length ≤ 5 := by
  obtain ⟨n, rfl⟩ := Int.eq_ofNat_of_zero_le h0
  have := TL.numL_len (n := n) (k := 5) (by decide) (by omega)
  rw [TL.len_tl]
  show (TL.tl (Str.ofString (toString ((n : Nat) : Int)))).length ≤ 5
  rw [TL.tl_num]
  exact this
theorem rd_cases {ws : List Str} {D : Deed} (h : rd ws = some D) :
    (∃ a b : Str, ws = [("lend" : Str), a, b] ∧ numOk a = true ∧ numOk b = true ∧ D = .lend (numV a) (numV b)) ∨ (∃ (a b : Str) (t : List Str), ws = ("report" : Str) :: a :: b :: t ∧ numOk a = true ∧ (b :: t).all wordOk = true ∧ D = .report (numV a) (b :: t)) ∨
    (∃ a : Str, ws = [("back" : Str), a] ∧ numOk a = true ∧ D = .back (numV a)) ∨ (∃ a : Str, ws = [("stop" : Str), a] ∧ numOk a = true ∧ D = .stop (numV a)) ∨ (∃ a : Str, ws = [("found" : Str), a] ∧ numOk a = true ∧ D = .found (numV a)) ∨
    (∃ a b : Str, ws = [("settle" : Str), a, b] ∧ numOk a = true ∧ numOk b = true ∧ D = .settle (numV a) (numV b)) := by
  unfold rd at h
  cases ws with
  | nil => cases h
  | cons w r =>
    dsimp only at h
    split at h
    · rename_i e
      split at h
      · rename_i a b t
        split at h
        · rename_i c
          rw [Bool.and_eq_true] at c
          cases h
          exact .inr (.inl ⟨a, b, t, by rw [e], c.1, c.2, rfl⟩)
        · cases h
      · cases h
    split at h
    · rename_i e
      split at h
      · rename_i a b
        split at h
        · rename_i c
          rw [Bool.and_eq_true] at c
          cases h
          exact .inl ⟨a, b, by rw [e], c.1, c.2, rfl⟩
        · cases h
      · cases h
    split at h
    · rename_i e
      split at h
      · rename_i a b
        split at h
        · rename_i c
          rw [Bool.and_eq_true] at c
          cases h
          exact .inr (.inr (.inr (.inr (.inr ⟨a, b, by rw [e], c.1, c.2, rfl⟩))))
        · cases h
      · cases h
    split at h
    · rename_i e
      split at h
      · rename_i a
        split at h
        · rename_i c
          cases h
          exact .inr (.inr (.inl ⟨a, by rw [e], c, rfl⟩))
        · cases h
      · cases h
    split at h
    · rename_i e
      split at h
      · rename_i a
        split at h
        · rename_i c
          cases h
          exact .inr (.inr (.inr (.inl ⟨a, by rw [e], c, rfl⟩)))
        · cases h
      · cases h
    split at h
    · rename_i e
      split at h
      · rename_i a
        split at h
        · rename_i c
          cases h
          exact .inr (.inr (.inr (.inr (.inl ⟨a, by rw [e], c, rfl⟩))))
        · cases h
      · cases h
    · cases h
section
variable {P : Program} {w : World} {K : PySem.W.Frag} {mg : Str → Option Value} {base : Heap} {a : Ad} {fd : Fd}
def spDone (a : Ad) : Sp := fun vs H Q E => ∃ (F : Fp) (o : Of) (p : Addr) (ws : List Str) (D : Deed), vs = [.ref F.p, .ref p] ∧ Off a H F o ∧ Wf o ∧ Wds H p ws ∧ rd ws = some D ∧
  (∀ z i H', StepO o D (.word z) o → words9[i]? = some z → i < 9 → Same H H' → E (.ref (nine a i)) none H') ∧ ∀ x o' F' H', StepO o D x o' → (∀ z, x ≠ .word z) → Beh a H H' F F' o' → Q (.str (ansO x)) H'
theorem ok_done (T : Txt K mg a fd) : FnOk P w K mg base (L2.CX P w) 5 a.done fd.done ["office", "words"] (spDone a) := by
  have G_Office_lend := ok_Office_lend (P := P) (w := w) (base := base) T
  have G_Office_report := ok_Office_report (P := P) (w := w) (base := base) T
  have G_Office_back := ok_Office_back (P := P) (w := w) (base := base) T
  have G_Office_stop := ok_Office_stop (P := P) (w := w) (base := base) T
  have G_Office_found := ok_Office_found (P := P) (w := w) (base := base) T
  have G_Office_settle := ok_Office_settle (P := P) (w := w) (base := base) T
  refine T.F_done.okX sc_done (fun vs H Q E h => ?_) (fun cdv A0 outer s H vs Q E hr h => ?_)
  · obtain ⟨F, o, p, ws, D, rfl, _⟩ := h
    rfl
  · obtain ⟨F, o, p, ws, D, rfl, O, W, V, hD, k1, k2⟩ := h
    have hu := hu_of hr
    have hok := rd_ok hD V.few
    refine ⟨_, (pss_cons (ps_set (i := 2) sc_done.nd rfl (Or.inl rfl) (pe_ix ix_list (pv 1) pe_int (fun _ _ => rfl)))
    (pss_cons (ps_set (i := 3) sc_done.nd rfl (Or.inl rfl) (pe_callTy call_int_str (by rfl) T.n_int (by decide +kernel) (pa_cons (pe_ix ix_list (pv 1) pe_int (fun _ _ => rfl)) pa_nil)))
    (pss_cons (ps_if (pt_cmpR op_eq (pv 2) pe_str (nomark _)) (pss_cons (ps_asg (pe_meth (pv 0) T.cl T.m_Office_lend G_Office_lend (hr.mono (by decide)) T.b_Office_lend .nil passU (pa_cons (pv 3) (pa_cons (pe_callTy call_int_str (by rfl) T.n_int (by decide +kernel) (pa_cons (pe_ix ix_list (pv 1) pe_int (fun _ _ => rfl)) pa_nil)) pa_nil))) (pg_tup (by rfl) (pgs_cons (pg_name (i := 4) sc_done.nd rfl (Or.inl rfl)) (pgs_cons (pg_name (i := 5) sc_done.nd rfl (Or.inl rfl)) pgs_nil))))
    (pss_one (ps_ret (pe_joined (.cons (pe_fmt (pv 4)) (.cons pe_str (.cons (pe_fmt (pv 5)) PJ.nil))))))) pss_nil)
    (pss_cons (ps_if (pt_cmpR op_eq (pv 2) (pe_gs (by rfl) T.g_REPORT) (nomark _)) (pss_one (ps_expr (pe_meth (pv 0) T.cl T.m_Office_report G_Office_report (hr.mono (by decide)) T.b_Office_report .nil passU (pa_cons (pv 3) (pa_cons (pe_slice sl_list (pv 1) (po_some pe_int) po_none) pa_nil))))) (pss_one (ps_if (pt_cmpR op_eq (pv 2) pe_str (nomark _)) (pss_one (ps_expr (pe_meth (pv 0) T.cl T.m_Office_back G_Office_back (hr.mono (by decide)) T.b_Office_back .nil passU (pa_cons (pv 3) pa_nil)))) (pss_one (ps_if (pt_cmpR op_eq (pv 2) pe_str (nomark _)) (pss_one (ps_expr (pe_meth (pv 0) T.cl T.m_Office_stop G_Office_stop (hr.mono (by decide)) T.b_Office_stop .nil passU (pa_cons (pv 3) pa_nil)))) (pss_one (ps_if (pt_cmpR op_eq (pv 2) pe_str (nomark _)) (pss_one (ps_expr (pe_meth (pv 0) T.cl T.m_Office_found G_Office_found (hr.mono (by decide)) T.b_Office_found .nil passU (pa_cons (pv 3) pa_nil)))) (pss_one (ps_expr (pe_meth (pv 0) T.cl T.m_Office_settle G_Office_settle (hr.mono (by decide)) T.b_Office_settle .nil passU (pa_cons (pv 3) (pa_cons (pe_callTy call_int_str (by rfl) T.n_int (by decide +kernel) (pa_cons (pe_ix ix_list (pv 1) pe_int (fun _ _ => rfl)) pa_nil)) pa_nil))))))))))))
    (pss_one (ps_ret (pe_gs (by rfl) T.g_DONE))))))), ?_⟩
    have w0 : ∀ H', StepO o D (.word "NoDesk") o → Same H H' → E (.ref a.NoDesk) none H' := fun H' st s => k1 _ 0 H' st rfl (by decide) s
    have w1 : ∀ H', StepO o D (.word "Stopped") o → Same H H' → E (.ref a.Stopped) none H' := fun H' st s => k1 _ 1 H' st rfl (by decide) s
    have w2 : ∀ H', StepO o D (.word "NoRoom") o → Same H H' → E (.ref a.NoRoom) none H' := fun H' st s => k1 _ 2 H' st rfl (by decide) s
    have w3 : ∀ H', StepO o D (.word "NoCount") o → Same H H' → E (.ref a.NoCount) none H' := fun H' st s => k1 _ 3 H' st rfl (by decide) s
    have w4 : ∀ H', StepO o D (.word "NoWord") o → Same H H' → E (.ref a.NoWord) none H' := fun H' st s => k1 _ 4 H' st rfl (by decide) s
    have w5 : ∀ H', StepO o D (.word "Short") o → Same H H' → E (.ref a.Short) none H' := fun H' st s => k1 _ 5 H' st rfl (by decide) s
    have w6 : ∀ H', StepO o D (.word "NoNumber") o → Same H H' → E (.ref a.NoNumber) none H' := fun H' st s => k1 _ 6 H' st rfl (by decide) s
    have w7 : ∀ H', StepO o D (.word "Twice") o → Same H H' → E (.ref a.Twice) none H' := fun H' st s => k1 _ 7 H' st rfl (by decide) s
    have w8 : ∀ H', StepO o D (.word "NotThere") o → Same H H' → E (.ref a.NotThere) none H' := fun H' st s => k1 _ 8 H' st rfl (by decide) s
    have sr := Same.refl H
    have len640 : ∀ {x : Str}, numOk x = true → x.length ≤ 640 := fun h => by have := (numOk_len h).2; omega
    have hp := V.at_
    rcases rd_cases hD with ⟨n, m, rfl, hn, hm, eD⟩ | ⟨n, b, t, rfl, hn, ht, eD⟩ | ⟨n, rfl, hn, eD⟩ | ⟨n, rfl, hn, eD⟩ | ⟨n, rfl, hn, eD⟩ | ⟨n, m, rfl, hn, hm, eD⟩
    · have i1 := numOk_int hn
      generalize numV n = d at i1 eD
      have i2 := numOk_int hm
      generalize numV m = m' at i2 eD
      subst eD
      refine ⟨_, rfl, p, _, 0, _, rfl, rfl, SqL.of hp, rfl, ?_⟩
      refine gName_go ?_
      dsimp only
      refine seq_go ?_
      refine ⟨_, rfl, p, _, 1, _, rfl, rfl, SqL.of hp, rfl, n, _, rfl, i1, len640 hn, ?_⟩
      refine gName_go ?_
      dsimp only
      refine seq_go ?_
      refine ⟨_, rfl, rfl, _, rfl, ?_⟩
      rw [deqT rfl]
      refine iteT ?_
      refine seq_go ?_
      refine ⟨_, rfl, F.p, F.dx, _, rfl, O.ob, ofl_m F, _, rfl, _, rfl, p, _, 2, _, rfl, rfl, SqL.of hp, rfl, m, _, rfl, i2, len640 hm, F, o, d, m', rfl, O, W, hok.1, hok.2, fun c => w0 _ (.noDesk rfl c) sr, fun i z e1 e2 => ?_⟩
      subst e1
      refine ⟨fun c => w1 _ (.stopped rfl (show ¬ (("lend" : Str) = "settle") by decide +kernel) e2 c) sr, fun cz => ?_⟩
      subst cz
      refine ⟨fun c => w3 _ (.noCount e2 c) sr, fun m1 hf H' s' => w2 _ (.noRoom e2 m1 hf) s', fun m1 f hf H' t' kp n1 n2 O' e => ?_⟩
      refine ⟨t', _, rfl, SqT.of e, rfl, _, _, rfl, _, _, rfl, rfl, ?_⟩
      have Kx := k2 _ _ F H' (.lend e2 m1 hf) (fun z q => by cases q) ⟨kp, fun c hc => .inl hc, rfl, O'⟩
      dsimp only
      have f1 : 1 ≤ f := hf.1.1
      have f2 : f + m' - 1 ≤ (o.top : Int) := hf.1.2.1
      have t4 := W.t400
      have l1 := len_num (x := f) (by omega) (by omega)
      have l2 := len_num (x := f + m' - 1) (by omega) (by omega)
      have lf : (Str.empty ++ (toString f : Str)).length ≤ 5 := by rw [Str.empty_append]; exact l1
      have ld : (Str.empty ++ (toString f : Str) ++ ("-" : Str)).length ≤ 6 := by rw [Str.length_append]; have : ("-" : Str).length = 1 := by decide
                                                                                  omega
      have le : (Str.empty ++ (toString f : Str) ++ ("-" : Str) ++ (toString (f + m' - 1) : Str)).length ≤ 11 := by rw [Str.length_append]; omega
      refine ⟨_, rfl, .inr ⟨f, rfl, okS (by omega) (by omega), _, rfl, by rw [sizeLine_eq]; omega, _, rfl, by rw [sizeLine_eq]; omega, _, rfl, .inr ⟨f + m' - 1, rfl, okS (by omega) (by omega), _, rfl, by rw [sizeLine_eq]; omega, ?_⟩⟩⟩
      have e0 : Str.empty ++ (toString f : Str) = (toString f : Str) := Str.empty_append _
      have ea : ansO (Out.pair f (f + m' - 1)) = Str.empty ++ (toString f : Str) ++ ("-" : Str) ++ (toString (f + m' - 1) : Str) := by
        rw [e0]
        rfl
      rw [ea] at Kx
      exact Kx
    · have i1 := numOk_int hn
      generalize numV n = d at i1 eD
      subst eD
      refine ⟨_, rfl, p, _, 0, _, rfl, rfl, SqL.of hp, atI_nat (j := 0) rfl, ?_⟩
      refine gName_go ?_
      dsimp only
      refine seq_go ?_
      refine ⟨_, rfl, p, _, 1, _, rfl, rfl, SqL.of hp, atI_nat (j := 1) rfl, n, _, rfl, i1, len640 hn, ?_⟩
      refine gName_go ?_
      dsimp only
      refine seq_go ?_
      refine ⟨_, rfl, rfl, _, rfl, ?_⟩
      rw [sne]
      refine iteF ?_
      refine next_go ?_
      dsimp only
      refine seq_go ?_
      refine ⟨_, rfl, rfl, _, rfl, ?_⟩
      rw [deqT rfl]
      refine iteT ?_
      refine ⟨_, rfl, F.p, F.dx, _, rfl, O.ob, ofl_m F, _, rfl, _, rfl, 2, rfl, p, _, rfl, SqL.of hp, fun l hl => ?_⟩
      have e2 : cutV ((("report" : Str) :: n :: b :: t).map L2.V.str) (some (2 : Int)) none = (b :: t).map L2.V.str := by
        rw [show (some (2 : Int)) = some ((2 : Nat) : Int) from rfl, cut_from _ _ (by simp)]
        rfl
      rw [e2]
      have sl : Same H (upd H l (.lst ((b :: t).map L2.V.str))) := same_upd hl
      refine ⟨F, o, d, l, b :: t, rfl, O.upd_new hl, W, hok.1, upd_same, O.new hl, fun c => w0 _ (.noDesk rfl c) sl, fun i z e1 e2 => ?_⟩
      subst e1
      refine ⟨fun c => w1 _ (.stopped rfl (show ¬ (("report" : Str) = "settle") by decide +kernel) e2 c) sl, fun cz => ?_⟩
      subst cz
      refine ⟨fun c => w4 _ (.noWord e2 c) sl, fun c => ⟨fun c2 => w5 _ (.short e2 c c2) sl, fun c2 F' H' r B e n1 n2 => ?_⟩⟩
      exact k2 _ _ F' H' (.report e2 c c2) (fun z q => by cases q) (B.from sl)
    · have i1 := numOk_int hn
      generalize numV n = d at i1 eD
      subst eD
      refine ⟨_, rfl, p, _, 0, _, rfl, rfl, SqL.of hp, rfl, ?_⟩
      refine gName_go ?_
      dsimp only
      refine seq_go ?_
      refine ⟨_, rfl, p, _, 1, _, rfl, rfl, SqL.of hp, rfl, n, _, rfl, i1, len640 hn, ?_⟩
      refine gName_go ?_
      dsimp only
      refine seq_go ?_
      refine ⟨_, rfl, rfl, _, rfl, ?_⟩
      rw [sne]
      refine iteF ?_
      refine next_go ?_
      dsimp only
      refine seq_go ?_
      refine ⟨_, rfl, rfl, _, rfl, ?_⟩
      rw [sne]
      refine iteF ?_
      refine ⟨_, rfl, rfl, _, rfl, ?_⟩
      rw [deqT rfl]
      refine iteT ?_
      refine ⟨_, rfl, F.p, F.dx, _, rfl, O.ob, ofl_m F, _, rfl, F, o, d, rfl, O, W, hok, fun c => w0 _ (.noDesk rfl c) sr, fun i z e1 e2 => ?_⟩
      subst e1
      refine ⟨fun c => w1 _ (.stopped rfl (show ¬ (("back" : Str) = "settle") by decide +kernel) e2 c) sr, fun cz => ?_⟩
      subst cz
      intro F' H' r ns' B pm pw e n1 n2
      exact k2 _ _ F' H' (.back e2 pm pw) (fun z q => by cases q) B
    · have i1 := numOk_int hn
      generalize numV n = d at i1 eD
      subst eD
      refine ⟨_, rfl, p, _, 0, _, rfl, rfl, SqL.of hp, rfl, ?_⟩
      refine gName_go ?_
      dsimp only
      refine seq_go ?_
      refine ⟨_, rfl, p, _, 1, _, rfl, rfl, SqL.of hp, rfl, n, _, rfl, i1, len640 hn, ?_⟩
      refine gName_go ?_
      dsimp only
      refine seq_go ?_
      refine ⟨_, rfl, rfl, _, rfl, ?_⟩
      rw [sne]
      refine iteF ?_
      refine next_go ?_
      dsimp only
      refine seq_go ?_
      refine ⟨_, rfl, rfl, _, rfl, ?_⟩
      rw [sne]
      refine iteF ?_
      refine ⟨_, rfl, rfl, _, rfl, ?_⟩
      rw [sne]
      refine iteF ?_
      refine ⟨_, rfl, rfl, _, rfl, ?_⟩
      rw [deqT rfl]
      refine iteT ?_
      refine ⟨_, rfl, F.p, F.dx, _, rfl, O.ob, ofl_m F, _, rfl, F, o, d, rfl, O, W, hok, fun c => w0 _ (.noDesk rfl c) sr, fun i z e1 e2 => ?_⟩
      subst e1
      refine ⟨fun c => w1 _ (.stopped rfl (show ¬ (("stop" : Str) = "settle") by decide +kernel) e2 c) sr, fun cz => ?_⟩
      subst cz
      intro H' r kp O' e n1 n2
      exact k2 _ _ F H' (.stop e2) (fun z q => by cases q) ⟨kp, fun c hc => .inl hc, rfl, O'⟩
    · have i1 := numOk_int hn
      generalize numV n = d at i1 eD
      subst eD
      refine ⟨_, rfl, p, _, 0, _, rfl, rfl, SqL.of hp, rfl, ?_⟩
      refine gName_go ?_
      dsimp only
      refine seq_go ?_
      refine ⟨_, rfl, p, _, 1, _, rfl, rfl, SqL.of hp, rfl, n, _, rfl, i1, len640 hn, ?_⟩
      refine gName_go ?_
      dsimp only
      refine seq_go ?_
      refine ⟨_, rfl, rfl, _, rfl, ?_⟩
      rw [sne]
      refine iteF ?_
      refine next_go ?_
      dsimp only
      refine seq_go ?_
      refine ⟨_, rfl, rfl, _, rfl, ?_⟩
      rw [sne]
      refine iteF ?_
      refine ⟨_, rfl, rfl, _, rfl, ?_⟩
      rw [sne]
      refine iteF ?_
      refine ⟨_, rfl, rfl, _, rfl, ?_⟩
      rw [sne]
      refine iteF ?_
      refine ⟨_, rfl, rfl, _, rfl, ?_⟩
      rw [deqT rfl]
      refine iteT ?_
      refine ⟨_, rfl, F.p, F.dx, _, rfl, O.ob, ofl_m F, _, rfl, F, o, d, rfl, O, W, hok, fun c => w6 _ (.noNumber c) sr, fun c => ⟨fun c2 => w7 _ (.twice c c2) sr, fun c2 => ⟨fun c3 => w8 _ (.notThere c c2 c3) sr, fun i e1 e2 H' kp O' => ?_⟩⟩⟩
      exact k2 _ _ F H' (.found c c2 e1 e2) (fun z q => by cases q) ⟨kp, fun c hc => .inl hc, rfl, O'⟩
    · have i1 := numOk_int hn
      generalize numV n = d at i1 eD
      have i2 := numOk_int hm
      generalize numV m = m' at i2 eD
      subst eD
      refine ⟨_, rfl, p, _, 0, _, rfl, rfl, SqL.of hp, rfl, ?_⟩
      refine gName_go ?_
      dsimp only
      refine seq_go ?_
      refine ⟨_, rfl, p, _, 1, _, rfl, rfl, SqL.of hp, rfl, n, _, rfl, i1, len640 hn, ?_⟩
      refine gName_go ?_
      dsimp only
      refine seq_go ?_
      refine ⟨_, rfl, rfl, _, rfl, ?_⟩
      rw [sne]
      refine iteF ?_
      refine next_go ?_
      dsimp only
      refine seq_go ?_
      refine ⟨_, rfl, rfl, _, rfl, ?_⟩
      rw [sne]
      refine iteF ?_
      refine ⟨_, rfl, rfl, _, rfl, ?_⟩
      rw [sne]
      refine iteF ?_
      refine ⟨_, rfl, rfl, _, rfl, ?_⟩
      rw [sne]
      refine iteF ?_
      refine ⟨_, rfl, rfl, _, rfl, ?_⟩
      rw [sne]
      refine iteF ?_
      refine ⟨_, rfl, F.p, F.dx, _, rfl, O.ob, ofl_m F, _, rfl, _, rfl, p, _, 2, _, rfl, rfl, SqL.of hp, rfl, m, _, rfl, i2, len640 hm, F, o, d, m', rfl, O, W, hok.1, hok.2, fun c => w0 _ (.noDesk rfl c) sr, fun i z e1 e2 => ?_⟩
      subst e1
      refine ⟨fun c => w8 _ (.settleNone e2 c) sr, fun cz => ?_⟩
      subst cz
      refine ⟨fun c H' s' => w3 _ (.settleCount e2 c) s', fun c1 c2 F' H' r ns' B pm pw e n1 n2 => ?_⟩
      exact k2 _ _ F' H' (.settle e2 c1 c2 pm pw) (fun z q => by cases q) B
end
end Nu
namespace Nu
open PySem PySem.Spec PyProof.Rows L2
theorem no_noword {o : Of} {ws : List Str} {D : Deed} (h : rd ws = some D) : ¬ ∃ o', StepO o D (.word "NoWord") o' := by
  rintro ⟨o', st⟩
  generalize hx : Out.word "NoWord" = x at st
  have ne : ∀ {z : Str}, ¬ ("NoWord" : Str) = z → ¬ Out.word "NoWord" = Out.word z := fun n e => n (by injection e)
  cases st with
  | noDesk hd h => exact ne (by decide +kernel) hx
  | stopped hd hs h hz => exact ne (by decide +kernel) hx
  | noCount hg h => exact ne (by decide +kernel) hx
  | noRoom hg h hf => exact ne (by decide +kernel) hx
  | lend hg h hf => cases hx
  | @noWord i ws' hg hn =>
    rcases rd_cases h with ⟨n, m, _, _, _, e⟩ | ⟨n, b, t, _, _, ht, e⟩ | ⟨n, _, _, e⟩ | ⟨n, _, _, e⟩ | ⟨n, _, _, e⟩ | ⟨n, m, _, _, _, e⟩
    · cases e
    · injection e with e1 e2
      refine hn fun x hxm => ?_
      rw [e2] at hxm
      have := List.all_eq_true.mp ht x hxm
      unfold wordOk at this
      rw [Bool.or_eq_true] at this
      exact this.imp of_decide_eq_true of_decide_eq_true
    · cases e
    · cases e
    · cases e
    · cases e
  | short hg h hl => exact ne (by decide +kernel) hx
  | report hg h hl => cases hx
  | back hg h hs => cases hx
  | stop hg => cases hx
  | settleNone h hz => exact ne (by decide +kernel) hx
  | settleCount h hm => exact ne (by decide +kernel) hx
  | settle h h1 h2 hp hs => cases hx
  | noNumber h => exact ne (by decide +kernel) hx
  | twice h ht => exact ne (by decide +kernel) hx
  | notThere h ht hh => exact ne (by decide +kernel) hx
  | found h ht hh hg => cases hx
/-- which of the nine classes takes which -/
def XM9 (K : PySem.W.Frag) (a : Ad) : Prop := ∀ i j, i < 9 → j < 9 → PySem.W.exmOne K (.ref (nine a i)) (.ref (nine a j)) = some (decide (i = j))
section
variable {P : Program} {w : World} {K : PySem.W.Frag} {mg : Str → Option Value} {base : Heap} {a : Ad} {fd : Fd}
def spAnswer (a : Ad) : Sp := fun vs H Q _ => ∃ (F : Fp) (o : Of) (p : Addr) (ws : List Str), vs = [.ref F.p, .ref p] ∧ Off a H F o ∧ Wf o ∧ Wds H p ws ∧
  (rd ws = none → ∀ H', Same H H' → Q (.str "BadRow") H') ∧ ∀ D x o' F' H', rd ws = some D → StepO o D x o' → Beh a H H' F F' o' → Q (.str (ansO x)) H'
theorem ok_answer (T : Txt K mg a fd) (ND : NumD K w a.NUMBERS) (XM : XM9 K a) : FnOk P w K mg base CX0 6 a.answer fd.answer ["office", "words"] (spAnswer a) := by
  have G_is_deed := ok_is_deed (P := P) (w := w) (base := base) T ND
  have G_done := ok_done (P := P) (w := w) (base := base) T
  refine T.F_answer.ok sc_answer (fun vs H Q E h => ?_) (fun cdv A outer s0 H vs Q E hr h => ?_)
  · obtain ⟨F, o, p, ws, rfl, _⟩ := h
    rfl
  · obtain ⟨F, o, p, ws, rfl, O, W, V, k0, k1⟩ := h
    have hu := hu_of hr
    refine ⟨_, (pss_cons (ps_if (pt_not (pt_val (pe_call G_is_deed (hr.mono (by decide)) (by rfl) T.g_is_deed T.F_is_deed.kp T.b_is_deed .nil pass0 (pa_cons (pv 1) pa_nil)))) (pss_one (ps_ret (pe_gs (by rfl) T.g_BAD_ROW))) pss_nil)
    (pss_one (ps_try_many rfl rfl takes0 (fun W pn xe tk _ => (pss_one (ps_ret (pe_callS G_done (hr.mono (by decide)) (by rfl) T.g_done T.F_done.kp T.b_done (fun σ => passAt tk σ) (pa_cons (pv 0) (pa_cons (pv 1) pa_nil))))))
      (.cons ⟨rfl, by decide, .inl T.x_NoDesk.g⟩ (fun a oe cls d pn hz hf => (pss_one (ps_ret pe_str)))
      (.cons ⟨rfl, by decide, .inl T.x_Stopped.g⟩ (fun a oe cls d pn hz hf => (pss_one (ps_ret pe_str)))
      (.cons ⟨rfl, by decide, .inl T.x_NoRoom.g⟩ (fun a oe cls d pn hz hf => (pss_one (ps_ret pe_str)))
      (.cons ⟨rfl, by decide, .inl T.x_NoCount.g⟩ (fun a oe cls d pn hz hf => (pss_one (ps_ret pe_str)))
      (.cons ⟨rfl, by decide, .inl T.x_Short.g⟩ (fun a oe cls d pn hz hf => (pss_one (ps_ret pe_str)))
      (.cons ⟨rfl, by decide, .inl T.x_NoNumber.g⟩ (fun a oe cls d pn hz hf => (pss_one (ps_ret pe_str)))
      (.cons ⟨rfl, by decide, .inl T.x_Twice.g⟩ (fun a oe cls d pn hz hf => (pss_one (ps_ret pe_str)))
      (.cons ⟨rfl, by decide, .inl T.x_NotThere.g⟩ (fun a oe cls d pn hz hf => (pss_one (ps_ret pe_str)))
      .nil))))))))))), ?_⟩
    refine ⟨_, rfl, p, ws, rfl, V, fun H1 s1 => ⟨_, rfl, ?_⟩⟩
    cases hrd : rd ws with
    | none => exact iteT (k0 hrd _ s1)
    | some D =>
      refine iteF ?_
      refine next_go ?_
      dsimp only
      have O1 : Off a H1 F o := O.stay fun c _ u e => s1 c u e
      refine ⟨_, rfl, _, rfl, F, o, p, ws, D, rfl, O1, W, V.same s1, hrd, fun z i H2 st hz hi s2 => ?_, fun x o' F' H2 st hx B => k1 D x o' F' H2 hrd st (B.from s1)⟩
      have fin : Q (.str z) H2 := k1 D (.word z) o F H2 hrd st (Beh.refl O (s1.trans s2))
      have : i = 0 ∨ i = 1 ∨ i = 2 ∨ i = 3 ∨ i = 4 ∨ i = 5 ∨ i = 6 ∨ i = 7 ∨ i = 8 := by omega
      rcases this with rfl | rfl | rfl | rfl | rfl | rfl | rfl | rfl | rfl
      · cases hz
        exact ⟨true, XM 0 0 (by decide) (by decide), fun _ ex nex => fin, fun z => by cases z⟩
      · cases hz
        exact ⟨false, XM 1 0 (by decide) (by decide), (fun z => by cases z), fun _ => ⟨true, XM 1 1 (by decide) (by decide), fun _ ex nex => fin, fun z => by cases z⟩⟩
      · cases hz
        exact ⟨false, XM 2 0 (by decide) (by decide), (fun z => by cases z), fun _ => ⟨false, XM 2 1 (by decide) (by decide), (fun z => by cases z), fun _ => ⟨true, XM 2 2 (by decide) (by decide), fun _ ex nex => fin, fun z => by cases z⟩⟩⟩
      · cases hz
        exact ⟨false, XM 3 0 (by decide) (by decide), (fun z => by cases z), fun _ => ⟨false, XM 3 1 (by decide) (by decide), (fun z => by cases z), fun _ => ⟨false, XM 3 2 (by decide) (by decide), (fun z => by cases z), fun _ => ⟨true, XM 3 3 (by decide) (by decide), fun _ ex nex => fin, fun z => by cases z⟩⟩⟩⟩
      · cases hz
        exact absurd ⟨_, st⟩ (no_noword hrd)
      · cases hz
        exact ⟨false, XM 5 0 (by decide) (by decide), (fun z => by cases z), fun _ => ⟨false, XM 5 1 (by decide) (by decide), (fun z => by cases z), fun _ => ⟨false, XM 5 2 (by decide) (by decide), (fun z => by cases z), fun _ => ⟨false, XM 5 3 (by decide) (by decide), (fun z => by cases z), fun _ => ⟨true, XM 5 5 (by decide) (by decide), fun _ ex nex => fin, fun z => by cases z⟩⟩⟩⟩⟩
      · cases hz
        exact ⟨false, XM 6 0 (by decide) (by decide), (fun z => by cases z), fun _ => ⟨false, XM 6 1 (by decide) (by decide), (fun z => by cases z), fun _ => ⟨false, XM 6 2 (by decide) (by decide), (fun z => by cases z), fun _ => ⟨false, XM 6 3 (by decide) (by decide), (fun z => by cases z), fun _ => ⟨false, XM 6 5 (by decide) (by decide), (fun z => by cases z), fun _ => ⟨true, XM 6 6 (by decide) (by decide), fun _ ex nex => fin, fun z => by cases z⟩⟩⟩⟩⟩⟩
      · cases hz
        exact ⟨false, XM 7 0 (by decide) (by decide), (fun z => by cases z), fun _ => ⟨false, XM 7 1 (by decide) (by decide), (fun z => by cases z), fun _ => ⟨false, XM 7 2 (by decide) (by decide), (fun z => by cases z), fun _ => ⟨false, XM 7 3 (by decide) (by decide), (fun z => by cases z), fun _ => ⟨false, XM 7 5 (by decide) (by decide), (fun z => by cases z), fun _ => ⟨false, XM 7 6 (by decide) (by decide), (fun z => by cases z), fun _ => ⟨true, XM 7 7 (by decide) (by decide), fun _ ex nex => fin, fun z => by cases z⟩⟩⟩⟩⟩⟩⟩
      · cases hz
        exact ⟨false, XM 8 0 (by decide) (by decide), (fun z => by cases z), fun _ => ⟨false, XM 8 1 (by decide) (by decide), (fun z => by cases z), fun _ => ⟨false, XM 8 2 (by decide) (by decide), (fun z => by cases z), fun _ => ⟨false, XM 8 3 (by decide) (by decide), (fun z => by cases z), fun _ => ⟨false, XM 8 5 (by decide) (by decide), (fun z => by cases z), fun _ => ⟨false, XM 8 6 (by decide) (by decide), (fun z => by cases z), fun _ => ⟨false, XM 8 7 (by decide) (by decide), (fun z => by cases z), fun _ => ⟨true, XM 8 8 (by decide) (by decide), fun _ ex nex => fin, fun z => by cases z⟩⟩⟩⟩⟩⟩⟩⟩
end
end Nu
namespace Nu
open PySem PySem.Spec PyProof.Rows L2
/-! ### texts cut at blanks -/
theorem spl_fact : ∀ (l acc : List Nat), TL.spl [32] 0 acc l ≠ [] ∧ (TL.spl [32] 0 acc l).length ≤ l.length + 1 ∧ ∀ p ∈ TL.spl [32] 0 acc l, p.length ≤ acc.length + l.length ∧ ∀ c ∈ p, c ∈ acc ∨ c ∈ l
  | [], acc => by
    rw [TL.spl_nil]
    refine ⟨by simp, by simp, fun p hp => ?_⟩
    rw [List.mem_singleton.mp hp]
    exact ⟨Nat.le_refl _, fun c hc => .inl hc⟩
  | x :: r, acc => by
    cases h : TL.pre [32] (x :: r) with
    | true =>
      rw [TL.spl_hit h]
      obtain ⟨h1, h2, h3⟩ := spl_fact r []
      refine ⟨by simp, ?_, fun p hp => ?_⟩
      · rw [List.length_cons, List.length_cons]
        exact Nat.succ_le_succ h2
      · rcases List.mem_cons.mp hp with rfl | hp
        · exact ⟨by omega, fun c hc => .inl hc⟩
        · obtain ⟨a, b⟩ := h3 p hp
          refine ⟨by rw [List.length_cons]; simp at a; omega, fun c hc => ?_⟩
          rcases b c hc with z | z
          · cases z
          · exact .inr (List.mem_cons_of_mem _ z)
    | false =>
      rw [TL.spl_miss h]
      obtain ⟨h1, h2, h3⟩ := spl_fact r (acc ++ [x])
      refine ⟨h1, by rw [List.length_cons]; omega, fun p hp => ?_⟩
      obtain ⟨a, b⟩ := h3 p hp
      refine ⟨by rw [List.length_append] at a; simp at a ⊢; omega, fun c hc => ?_⟩
      rcases b c hc with z | z
      · rcases List.mem_append.mp z with z | z
        · exact .inl z
        · rw [List.mem_singleton.mp z]
          exact .inr List.mem_cons_self
      · exact .inr (List.mem_cons_of_mem _ z)
/-- the words of a text -/
def sp (x : Str) : List Str := Txt.split x " "
theorem sp_spl (x : Str) : (sp x).map TL.tl = TL.spl [32] 0 [] (TL.tl x) := TL.split_spl x " " (by decide +kernel) (TL.kind_ok (by decide +kernel))
theorem sp_ne (x : Str) : sp x ≠ [] := fun z => (spl_fact (TL.tl x) []).1 (by rw [← sp_spl, z]; rfl)
theorem sp_few (x : Str) : (sp x).length ≤ x.length + 1 := by
  have := (spl_fact (TL.tl x) []).2.1
  rw [← sp_spl, List.length_map, ← TL.len_tl] at this
  exact this
theorem sp_len {x y : Str} (h : y ∈ sp x) : y.length ≤ x.length ∧ ∀ c ∈ TL.tl y, c ∈ TL.tl x := by
  obtain ⟨a, b⟩ := (spl_fact (TL.tl x) []).2.2 (TL.tl y) (by rw [← sp_spl]; exact List.mem_map_of_mem h)
  rw [← TL.len_tl, ← TL.len_tl] at a
  refine ⟨by simp at a; exact a, fun c hc => ?_⟩
  rcases b c hc with z | z
  · cases z
  · exact z
/-- a text of a book -/
structure Tx (x : Str) : Prop where
  len : x.length ≤ 100000
  few : (sp x).length ≤ 1000
/-! ### a book played -/
inductive RunO (o : Of) : List Str → List Str → Of → Prop
  | nil : RunO o [] [] o
  | bad {xs as : List Str} {o1 : Of} {x : Str} : RunO o xs as o1 → rd (sp x) = none → RunO o (xs ++ [x]) (as ++ [("BadRow" : Str)]) o1
  | step {xs as : List Str} {o1 o2 : Of} {x : Str} {D : Deed} {y : Out} : RunO o xs as o1 → rd (sp x) = some D → StepO o1 D y o2 → RunO o (xs ++ [x]) (as ++ [ansO y]) o2
theorem StepO.wf {o o' : Of} {D : Deed} {x : Out} (h : StepO o D x o') (W : Wf o) : Wf o' := by
  have leI : ∀ {i : Nat} {z : Str}, o.sg[i]? = some z → i < o.le.length := fun {i z} h => by
    rw [← W.sl]
    exact (List.getElem?_eq_some_iff.mp h).1
  cases h with
  | @lend i m f hg h hf => exact wf_lend W hf.1 (leI hg) (by omega)
  | @report i ws hg h hl =>
    have hns : o.le[i]? = some (o.le[i]'(leI hg)) := List.getElem?_eq_getElem _
    exact wf_report W hns ws (by rw [le_at hns] at hl; exact hl)
  | @back i ns hg h hs => exact wf_back W (List.getElem?_eq_getElem (leI hg))
  | @stop i hg => exact wf_stop W i
  | @settle i m ns h h1 h2 hp hs => exact wf_settle W (List.getElem?_eq_getElem (leI h))
  | @found n i h ht hh hg => exact wf_found W i n
  | _ => exact W
section
variable {P : Program} {w : World} {K : PySem.W.Frag} {mg : Str → Option Value} {base : Heap} {a : Ad} {fd : Fd}
def spPlayed (a : Ad) : Sp := fun vs H Q E => ∃ (t d : Int) (b : Addr) (xs : List Str), vs = [.int t, .int d, .ref b] ∧ t.natAbs.log2 < 1920 ∧ d.natAbs.log2 < 1920 ∧ H b = some (.lst (xs.map V.str)) ∧ xs.length ≤ 1000 ∧ (∀ x ∈ xs, Tx x) ∧
  (¬ (1 ≤ t ∧ t ≤ 400 ∧ 1 ≤ d ∧ d ≤ 6) → ∀ H', Same H H' → E (.ref a.NoOffice) none H') ∧
  (1 ≤ t ∧ t ≤ 400 ∧ 1 ≤ d ∧ d ≤ 6 → ∀ (r la : Addr) (as : List Str) (F : Fp) (o' : Of) H', Same H H' → H r = none → H' r = some (.tup [.ref la, .ref F.p]) → H la = none → H' la = some (.lst (as.map V.str)) → (∀ c ∈ F.foot, H c = none) → la ∉ F.foot → r ∉ F.foot → Off a H' F o' → Wf o' → RunO (Of.new t.toNat d.toNat) xs as o' → Q (.ref r) H')
theorem ok_played (T : Txt K mg a fd) (ND : NumD K w a.NUMBERS) (XM : XM9 K a) : FnOk P w K mg base (L2.CX P w) 7 a.played fd.played ["top", "desks", "book"] (spPlayed a) := by
  have G_Office_init := ok_Office_init (P := P) (w := w) (base := base) T
  have G_answer := ok_answer (P := P) (w := w) (base := base) T ND XM
  refine T.F_played.okX sc_played (fun vs H Q E h => ?_) (fun cdv A outer s0 H vs Q E hr h => ?_)
  · obtain ⟨t, d, b, xs, rfl, _⟩ := h
    rfl
  · obtain ⟨t, d, b, xs, rfl, ht, hd, hb, hl, hx, k1, k2⟩ := h
    have hu := hu_of hr
    refine ⟨_, (pss_cons (ps_set (i := 3) sc_played.nd rfl (Or.inl rfl) (pe_make T.mkO G_Office_init (hr.mono (by decide)) (by rfl) T.g_Office T.b_Office_init .nil passU (pa_cons (pv 0) (pa_cons (pv 1) pa_nil))))
    (pss_cons (ps_set (i := 4) sc_played.nd rfl (Or.inl rfl) (pe_lst pa_nil))
    (pss_cons (ps_for passesU rfl (pi_list (pv 2)) (pg_name (i := 5) sc_played.nd rfl (Or.inl rfl))
      (pss_one (ps_expr (pe_bm PySem.F.plainAttrs_list PySem.F.slot_list_append PySem.F.type_list_append mt_append (pv 4) (pa_cons (pe_call G_answer (hr.mono (by decide)) (by rfl) T.g_answer T.F_answer.kp T.b_answer .nil pass0 (pa_cons (pv 3) (pa_cons (pe_split (pv 5) pe_str) pa_nil))) pa_nil)))))
    (pss_one (ps_ret (pe_tup (pa_cons (pv 4) (pa_cons (pv 3) pa_nil)))))))), ?_⟩
    refine ⟨_, rfl, _, rfl, fun x dx nx ndx nex => ⟨x, dx, t, d, rfl, upd_same, ht, hd, fun c => ?_, fun c1 c2 => ?_, fun c1 c2 F H1 eFp eFdx ff kp O => ⟨rfl, ?_⟩⟩⟩
    · refine k1 (fun z => c ⟨z.1, z.2.1⟩) _ ?_
      intro c u e
      rw [upd_ne (fun z => by rw [z, nx] at e; cases e), upd_ne (fun z => by rw [z, ndx] at e; cases e)]
      exact e
    · refine k1 (fun z => c2 ⟨z.2.2.1, z.2.2.2⟩) _ ?_
      intro c u e
      rw [upd_ne (fun z => by rw [z, nx] at e; cases e), upd_ne (fun z => by rw [z, ndx] at e; cases e)]
      exact e
    · refine gName_go ?_
      dsimp only
      refine seq_go ?_
      have keepO : Same H H1 := fun c u e => by
        have c1 : c ≠ dx := fun z => by rw [z, ndx] at e; cases e
        have c2 : c ≠ x := fun z => by rw [z, nx] at e; cases e
        exact kp c u (by rw [upd_ne c2, upd_ne c1]; exact e) (fun z => c2 (List.mem_singleton.mp z))
      have newF : ∀ c ∈ F.foot, H c = none := fun c hc => by
        rcases ff c hc with z | z
        · rw [z]
          exact nx
        · have c2 : c ≠ x := fun q => by rw [q, upd_same] at z; cases z
          rw [upd_ne c2] at z
          have c1 : c ≠ dx := fun q => by rw [q, upd_same] at z; cases z
          rw [upd_ne c1] at z
          exact z
      refine ⟨Nat.zero_le _, fun la nla => ?_⟩
      have O2 : Off a (upd H1 la (.lst [])) F (Of.new t.toNat d.toNat) := O.upd_new nla
      have s2 : Same H (upd H1 la (.lst [])) := keepO.trans (same_upd nla)
      have laH : H la = none := keepO.free nla
      have laF : la ∉ F.foot := fun z => by
        obtain ⟨u, e⟩ := O.has la z
        rw [nla] at e
        cases e
      have hla : (upd H1 la (.lst ([] : List V))) la = some (.lst (([] : List Str).map V.str)) := upd_same
      generalize upd H1 la (.lst ([] : List V)) = H2 at O2 s2 hla ⊢
      clear kp O keepO
      refine gName_go ?_
      dsimp only
      refine seq_go ?_
      refine ⟨_, rfl, b, rfl, ⟨_, SqL.of (s2 _ _ hb)⟩, ?_⟩
      refine for_list (K := K) (a := b) (xs := xs.map V.str) (fun j σ H' => ∃ (F' : Fp) (o' : Of) (as : List Str) (v5 : Option V), σ = [some (.int t), some (.int d), some (.ref b), some (.ref F'.p), some (.ref la), v5] ∧
          Off a H' F' o' ∧ Wf o' ∧ RunO (Of.new t.toNat d.toNat) (xs.take j) as o' ∧ as.length = j ∧ Same H H' ∧ H' la = some (.lst (as.map V.str)) ∧ la ∉ F'.foot ∧ ∀ c ∈ F'.foot, H c = none)
        ⟨F, _, [], none, by rw [eFp]; rfl, O2, wf_new (by omega) (by omega) (by omega) (by omega), .nil, rfl, s2, hla, laF, newF⟩ (fun j σ H' _ ⟨_, _, _, _, _, _, _, _, _, s, _⟩ => SqL.of (s _ _ hb)) ?_ ?_
      · clear O2 s2 hla laF newF eFp eFdx ff
        rintro j y σ H3 hy ⟨F, o, as, v5, rfl, O, W, R, la_, s3, hla, laF, newF⟩
        rw [List.getElem?_map] at hy
        obtain ⟨x, ex, rfl⟩ := Option.map_eq_some_iff.mp hy
        have tx := hx x (List.mem_of_getElem? ex)
        have hj : j < xs.length := (List.getElem?_eq_some_iff.mp ex).1
        have tk := take_snoc ex
        refine gName_go ?_
        refine ⟨_, rfl, .inl ⟨rfl, _, SqL.of hla⟩, _, rfl, _, rfl, ⟨x, rfl⟩, x, _, rfl, rfl, by decide +kernel, by have := tx.len; rw [sizeLine_eq]; omega, fun l nl => ?_⟩
        have s4 : Same H3 (upd H3 l (.lst ((Txt.split x " ").map V.str))) := same_upd nl
        have O4 : Off a (upd H3 l (.lst ((Txt.split x " ").map V.str))) F o := O.upd_new nl
        have V4 : Wds (upd H3 l (.lst ((Txt.split x " ").map V.str))) l (sp x) := ⟨upd_same, sp_ne x, tx.few, fun y hy => Nat.le_trans (sp_len hy).1 tx.len⟩
        have hla4 := s4 _ _ hla
        have bound : (as.map V.str).length < sizeLine := by rw [List.length_map, sizeLine_eq]; omega
        generalize upd H3 l (.lst ((Txt.split x " ").map V.str)) = H4 at s4 O4 V4 hla4 ⊢
        have s04 : Same H H4 := s3.trans s4
        refine ⟨F, o, l, sp x, rfl, O4, W, V4, fun hrd H5 s5 => ?_, fun D x' o' F' H5 hrd st B => ?_⟩
        · have hla5 := s5 _ _ hla4
          refine ⟨la, _, _, rfl, rfl, hla5, bound, F, o, as ++ [("BadRow" : Str)], _, rfl, ?_, W, by rw [tk]; exact .bad R hrd, by rw [List.length_append, la_]; rfl, ?_, by rw [upd_same, List.map_append]; rfl, laF, newF⟩
          · exact (O4.stay fun c _ u e => s5 c u e).stay fun c hc u e => by rw [upd_ne (fun z => laF (by rw [← z]; exact hc))]; exact e
          · intro c u e
            rw [upd_ne (fun z => by rw [z, laH] at e; cases e)]
            exact s5 _ _ (s04 _ _ e)
        · have hla5 := B.kp _ _ hla4 laF
          have laF' : la ∉ F'.foot := fun z => by
            rcases B.ff la z with q | q
            · exact laF q
            · rw [hla4] at q
              cases q
          refine ⟨la, _, _, rfl, rfl, hla5, bound, F', o', as ++ [ansO x'], _, by rw [B.pp]; rfl, ?_, st.wf W, by rw [tk]; exact .step R hrd st, by rw [List.length_append, la_]; rfl, ?_, by rw [upd_same, List.map_append]; rfl, laF', fun c hc => ?_⟩
          · exact B.of.stay fun c hc u e => by rw [upd_ne (fun z => laF' (by rw [← z]; exact hc))]; exact e
          · intro c u e
            rw [upd_ne (fun z => by rw [z, laH] at e; cases e)]
            exact B.kp _ _ (s04 _ _ e) fun z => by rw [newF c z] at e; cases e
          · rcases B.ff c hc with q | q
            · exact newF c q
            · exact s04.free q
      · rintro σ H3 ⟨F, o, as, v5, rfl, O, W, R, la_, s3, hla, laF, newF⟩
        refine ⟨_, rfl, _, rfl, (by show 2 ≤ sizeLine; decide), fun r nr => ?_⟩
        rw [List.length_map, List.take_length] at R
        have s4 : Same H3 (upd H3 r (.tup [V.ref la, V.ref F.p])) := same_upd nr
        refine k2 ⟨c1.1, c1.2, c2.1, c2.2⟩ r la as F o _ (s3.trans s4) (s3.free nr) upd_same laH (s4 _ _ hla) newF laF (fun z => ?_) (O.upd_new nr) W R
        obtain ⟨u, e⟩ := O.has r z
        rw [nr] at e
        cases e
end
end Nu
namespace Nu
open PySem PySem.Spec PyProof.Rows L2
/-- the law's office goes on: some office goes with it -/
theorem rel_next {o : Of} {M M' : Lm} {D : Deed} {x : Out} (R : Rel o M) (W : Wf o) (h : StepM M D x M') : ∃ o', Rel o' M' ∧ Wf o' := by
  have leI : ∀ {i : Nat} {z : Str}, o.sg[i]? = some z → i < o.le.length := fun {i z} h => by
    rw [← W.sl]
    exact (List.getElem?_eq_some_iff.mp h).1
  have hle : ∀ i, M.ly.getD i [] = o.le.getD i [] := fun i => by rw [R.ly]
  cases h with
  | @lend i m f hg h hf =>
    have hz := (R.goLow W hg).2.1
    have ft := (R.fit W m f).mp hf.1
    exact ⟨_, rel_lend R W hg h ft, wf_lend W ft (leI hz) (by omega)⟩
  | @report i ws hg h hl =>
    have hz := (R.goLow W hg).2.1
    have hns : o.le[i]? = some (o.le[i]'(leI hz)) := List.getElem?_eq_getElem _
    rw [hle] at hl
    exact ⟨_, rel_report R W hg h hl, wf_report W hns ws (by rw [le_at hns] at hl; exact hl)⟩
  | @back i ns hg h hs => exact ⟨_, rel_back R W hg, wf_back W (List.getElem?_eq_getElem (leI (R.goLow W hg).2.1))⟩
  | @stop i hg => exact ⟨_, rel_stop R W hg, wf_stop W i⟩
  | @settle i m kk ms h h1 h2 hp hs =>
    have hz := R.loSome W h
    obtain ⟨hgf, k2, ns, e2, hns, hk2, hlu⟩ := R.ofStop W hz
    rw [h] at e2
    cases e2
    rw [hle, le_at hns] at h2
    exact ⟨_, rel_settle R W hns hgf h (by omega) (by omega), wf_settle W hns⟩
  | @found n i ns h ht e4 hm hg =>
    rw [R.ly] at e4
    obtain ⟨l, hl⟩ := R.low W i e4
    obtain ⟨z', a, d⟩ := R.stage W i e4 hl hg
    rcases d with ⟨_, q, _⟩ | ⟨_, _, k, q, hk⟩ | ⟨_, _, _, q⟩
    · cases q
    · subst q
      exact ⟨_, rel_found R W e4 hg hl hk hm, wf_found W i n⟩
    · rw [List.length_eq_zero_iff.mp q] at hm
      cases hm
  | _ => exact ⟨o, R, W⟩
/-! ### a book reckoned by the law -/
inductive RunM (M : Lm) : List Str → List Str → Lm → Prop
  | nil : RunM M [] [] M
  | bad {xs as : List Str} {M1 : Lm} {x : Str} : RunM M xs as M1 → rd (sp x) = none → RunM M (xs ++ [x]) (as ++ [("BadRow" : Str)]) M1
  | step {xs as : List Str} {M1 M2 : Lm} {x : Str} {D : Deed} {y : Out} : RunM M xs as M1 → rd (sp x) = some D → StepM M1 D y M2 → RunM M (xs ++ [x]) (as ++ [ansO y]) M2
theorem run_same {o : Of} {M : Lm} (R : Rel o M) (W : Wf o) {xs as : List Str} {M' : Lm} (h : RunM M xs as M') : ∀ {bs : List Str} {o' : Of}, RunO o xs bs o' → as = bs ∧ Rel o' M' ∧ Wf o' := by
  induction h with
  | nil =>
    intro bs o' k
    generalize hz : ([] : List Str) = zs at k
    cases k with
    | nil => exact ⟨rfl, R, W⟩
    | bad k _ => simp at hz
    | step k _ _ => simp at hz
  | @bad xs as M1 x h hr ih =>
    intro bs o' k
    generalize hz : xs ++ [x] = zs at k
    cases k with
    | nil => simp at hz
    | bad k hr2 =>
      obtain ⟨e1, e2⟩ := List.append_inj' hz rfl
      subst e1
      obtain ⟨q1, q2, q3⟩ := ih k
      exact ⟨by rw [q1], q2, q3⟩
    | step k hr2 st =>
      obtain ⟨e1, e2⟩ := List.append_inj' hz rfl
      cases e2
      rw [hr] at hr2
      cases hr2
  | @step xs as M1 M2 x D y h hr sm ih =>
    intro bs o' k
    generalize hz : xs ++ [x] = zs at k
    cases k with
    | nil => simp at hz
    | bad k hr2 =>
      obtain ⟨e1, e2⟩ := List.append_inj' hz rfl
      cases e2
      rw [hr] at hr2
      cases hr2
    | step k hr2 st =>
      obtain ⟨e1, e2⟩ := List.append_inj' hz rfl
      cases e2
      subst e1
      rw [hr] at hr2
      cases hr2
      obtain ⟨q1, q2, q3⟩ := ih k
      obtain ⟨e, R', W'⟩ := rel_step q2 q3 rfl sm st
      exact ⟨by rw [q1, e], R', W'⟩
end Nu
namespace Nu
open PySem PySem.Spec PyProof.Rows L2
/-! ### texts of deeds -/
def sI (n : Int) : Str := (toString n : Str)
def toks : Deed → List Str
  | .lend d m => ["lend", sI d, sI m]
  | .report d ws => "report" :: sI d :: ws
  | .back d => [("back" : Str), sI d]
  | .stop d => [("stop" : Str), sI d]
  | .found n => [("found" : Str), sI n]
  | .settle d m => ["settle", sI d, sI m]
def textOf (D : Deed) : Str := Txt.join " " (toks D)
/-- a number that a book may tell -/
def NumB (n : Int) : Prop := 0 ≤ n ∧ n < 10 ^ 60
def Deed.Nb : Deed → Prop
  | .lend d m => NumB d ∧ NumB m
  | .report d ws => NumB d ∧ Words ws ∧ ws.length ≤ 900
  | .back d => NumB d
  | .stop d => NumB d
  | .found n => NumB n
  | .settle d m => NumB d ∧ NumB m
theorem sI_tl {n : Int} (h : NumB n) : TL.tl (sI n) = TL.numL n.toNat := by
  obtain ⟨k, rfl⟩ := Int.eq_ofNat_of_zero_le h.1
  exact TL.tl_num k
theorem sI_len {n : Int} (h : NumB n) : 1 ≤ (sI n).length ∧ (sI n).length ≤ 60 := by
  rw [TL.len_tl, sI_tl h]
  refine ⟨?_, TL.numL_len (by decide) ?_⟩
  · cases q : TL.numL n.toNat with
    | nil => exact absurd q (TL.numL_ne _)
    | cons x r => simp
  · have := h.2
    have e : ((10 : Int) ^ 60) = ((10 ^ 60 : Nat) : Int) := by norm_cast
    rw [e] at this
    have := h.1
    omega
theorem NumB.ok {n : Int} (h : NumB n) : n.natAbs.log2 < 1920 := by
  obtain ⟨k, rfl⟩ := Int.eq_ofNat_of_zero_le h.1
  rw [Int.natAbs_natCast]
  by_cases c : k = 0
  · rw [c]
    decide
  · rw [Nat.log2_lt c]
    have := h.2
    have e : ((10 : Int) ^ 60) = ((10 ^ 60 : Nat) : Int) := by norm_cast
    rw [e] at this
    exact Nat.lt_trans (by omega) (show 10 ^ 60 < 2 ^ 1920 by decide +kernel)
theorem sIx_from {n k : Nat} (h : k ≤ n) : HT.sIx n 0 (some (k : Int)) = k := (HT.sIx_nat n 0 k).trans (Nat.min_eq_left h)
theorem words_len {ws : List Str} (h : Words ws) : (ws.map (·.length)).sum ≤ 6 * ws.length := by
  induction ws with
  | nil => exact Nat.le_refl _
  | cons x r ih =>
    have h1 := ih fun y hy => h y (List.mem_cons_of_mem _ hy)
    have h2 : x.length ≤ 6 := by
      rcases h x List.mem_cons_self with rfl | rfl
      · decide
      · decide
    rw [List.map_cons, List.sum_cons, List.length_cons]
    omega
section
variable {P : Program} {w : World} {K : PySem.W.Frag} {mg : Str → Option Value} {base : Heap} {a : Ad} {fd : Fd}
def spLText : Sp := fun vs H Q _ => ∃ (t : Addr) (D : Deed), vs = [.ref t] ∧ DeedAt H [] t D ∧ D.Nb ∧ ∀ H', Same H H' → Q (.str (textOf D)) H'
theorem ok_l_text (T : Txt K mg a fd) : FnOk P w K mg base CX0 1 a.l_text fd.l_text ["_law_deed_here"] spLText := by
  refine T.F_l_text.ok sc_l_text (fun vs H Q E h => ?_) (fun cdv A outer s0 H vs Q E hr h => ?_)
  · obtain ⟨t, D, rfl, _⟩ := h
    rfl
  · obtain ⟨t, D, rfl, hD, nb, k⟩ := h
    have hu := hu_of hr
    refine ⟨_, (pss_cons (ps_if (pt_cmpR op_eq (pe_ix ix_tup (pv 0) pe_int (fun _ _ => rfl)) pe_str (nomark _)) (pss_one (ps_ret (pe_join pe_str (pe_op op_cat (pe_lst (pa_cons (pe_ix ix_tup (pv 0) pe_int (fun _ _ => rfl)) (pa_cons (pe_callTy call_str_int (by rfl) T.n_str (by decide +kernel) (pa_cons (pe_ix ix_tup (pv 0) pe_int (fun _ _ => rfl)) pa_nil)) pa_nil))) (pe_ix ix_tup (pv 0) pe_int (fun _ _ => rfl)))))) pss_nil)
    (pss_one (ps_ret (pe_join pe_str (pe_op op_cat (pe_lst (pa_cons (pe_ix ix_tup (pv 0) pe_int (fun _ _ => rfl)) pa_nil)) (pe_lc (own := [("_law_number", 1)]) (g := gName 1) (by rfl) sc_l_text.nd (pi_tup (pe_slice sl_tup (pv 0) (po_some pe_int) po_none)) (blkOk_by (own := [("_law_number", 1)]) (N := ["_law_deed_here", "_law_number"]) (sc := defScope s_l_text) (by decide +kernel)) (fun _ _ _ _ _ => pg_name (i := 1) sc_l_text.nd rfl (Or.inl rfl)) (fun _ _ _ _ _ => pts_nil) (fun _ _ _ _ _ => (pe_callTy call_str_int (by rfl) T.n_str (by decide +kernel) (pa_cons (pv 1) pa_nil))))))))), ?_⟩
    by_cases c : ∃ d ws, D = .report d ws
    · obtain ⟨d, ws, rfl⟩ := c
      obtain ⟨_, aw, ht, hw, _⟩ := hD
      obtain ⟨n1, n2, n3⟩ := nb
      have hz := words_len n2
      have ls := sI_len n1
      refine ⟨_, rfl, t, _, 0, _, rfl, rfl, SqT.of ht, rfl, rfl, _, rfl, ?_⟩
      rw [deqT rfl]
      refine iteT ?_
      refine ⟨⟨_, rfl⟩, _, rfl, t, _, 0, _, rfl, rfl, SqT.of ht, rfl, _, rfl, t, _, 1, _, rfl, rfl, SqT.of ht, rfl, d, rfl, n1.ok, (by show 2 ≤ sizeLine; decide), fun l nl => ?_⟩
      have s1 : Same H (upd H l (.lst [V.str "report", V.str (sI d)])) := same_upd nl
      refine ⟨_, rfl, t, _, 2, _, rfl, rfl, SqT.of (s1 _ _ ht), rfl, ?_⟩
      refine ⟨l, aw, _, _, rfl, rfl, upd_same, s1 _ _ hw, by rw [List.length_map, sizeLine_eq]; simp; omega, fun l2 nl2 => ?_⟩
      refine ⟨_, l2, toks (.report d ws), rfl, rfl, .inl (SqL.of (by rw [upd_same]; rfl)), ?_, ?_⟩
      · show (("report" : Str).length :: (sI d).length :: ws.map (·.length)).sum + ("report" :: sI d :: ws : List Str).length * (" " : Str).length ≤ 16777216
        rw [List.sum_cons, List.sum_cons, show (" " : Str).length = 1 by decide, show ("report" : Str).length = 6 by decide, List.length_cons, List.length_cons]
        omega
      · exact k _ (s1.trans (same_upd nl2))
    · have gen : ∃ (kd : Str) (ns : List Int), H t = some (.tup (V.str kd :: ns.map V.int)) ∧ decide (kd = "report") = false ∧ kd.length ≤ 6 ∧ (∀ n ∈ ns, NumB n) ∧ ns.length ≤ 2 ∧ textOf D = Txt.join " " (kd :: ns.map sI) := by
        have m1 : ∀ {x : Int}, NumB x → ∀ n ∈ [x], NumB n := fun h n hn => by rw [List.mem_singleton.mp hn]; exact h
        have m2 : ∀ {x y : Int}, NumB x → NumB y → ∀ n ∈ [x, y], NumB n := fun h h' n hn => by
          rcases List.mem_cons.mp hn with rfl | hn
          · exact h
          · rw [List.mem_singleton.mp hn]; exact h'
        cases D with
        | report d ws => exact absurd ⟨d, ws, rfl⟩ c
        | lend d m => exact ⟨"lend", [d, m], hD.2, by decide +kernel, by decide, m2 nb.1 nb.2, Nat.le_refl _, rfl⟩
        | settle d m => exact ⟨"settle", [d, m], hD.2, by decide +kernel, by decide, m2 nb.1 nb.2, Nat.le_refl _, rfl⟩
        | back d => exact ⟨"back", [d], hD.2, by decide +kernel, by decide, m1 nb, Nat.le_succ _, rfl⟩
        | stop d => exact ⟨"stop", [d], hD.2, by decide +kernel, by decide, m1 nb, Nat.le_succ _, rfl⟩
        | found d => exact ⟨"found", [d], hD.2, by decide +kernel, by decide, m1 nb, Nat.le_succ _, rfl⟩
      obtain ⟨kd, ns, ht, nr, kl, nn, n2, e⟩ := gen
      rw [e] at k
      refine ⟨_, rfl, t, _, 0, _, rfl, rfl, SqT.of ht, atI_nat (j := 0) rfl, rfl, _, rfl, ?_⟩
      rw [sne nr]
      refine iteF ?_
      refine next_go ?_
      dsimp only
      refine ⟨⟨_, rfl⟩, _, rfl, t, _, 0, _, rfl, rfl, SqT.of ht, atI_nat (j := 0) rfl, (by show 1 ≤ sizeLine; decide), fun l nl => ?_⟩
      have s1 : Same H (upd H l (.lst [V.str kd])) := same_upd nl
      have hl : (upd H l (.lst [V.str kd])) l = some (.lst [V.str kd]) := upd_same
      generalize upd H l (.lst [V.str kd]) = H1 at s1 hl ⊢
      have ht1 := s1 _ _ ht
      refine ⟨_, rfl, 1, rfl, t, _, rfl, SqT.of ht1, (fun z => ?_), fun q nq => ?_⟩
      · have := z.1
        rw [show HT.sIx (V.str kd :: ns.map V.int).length 0 (some 1) = 1 from sIx_from (k := 1) (by simp)] at this
        cases this
      · have e1 : cutV (V.str kd :: ns.map V.int) (some (1 : Int)) none = ns.map V.int := by
          rw [show (some (1 : Int)) = some ((1 : Nat) : Int) from rfl, cut_from _ _ (by simp)]
          rfl
        rw [e1]
        have s2 : Same H1 (upd H1 q (.tup (ns.map V.int))) := same_upd nq
        have hq : (upd H1 q (.tup (ns.map V.int))) q = some (.tup (ns.map V.int)) := upd_same
        generalize upd H1 q (.tup (ns.map V.int)) = H2 at s2 hq ⊢
        refine ⟨q, rfl, ⟨_, SqT.of hq⟩, fun D nD => ?_⟩
        refine lc_tup (K := K) (a := q) (xs := ns.map V.int) (fun j H' => Same H2 H' ∧ H' D = some (.lst ((ns.take j).map fun n => V.str (sI n)))) ⟨same_upd nD, upd_same⟩ (fun j H' _ ⟨s, _⟩ => SqT.of (s _ _ hq)) ?_ ?_
        · rintro j v H3 hv ⟨s3, hD⟩
          obtain ⟨n, en, rfl⟩ := map_int_at hv
          refine ⟨wipe1 _ _ _, ?_⟩
          dsimp only [tYes]
          rw [if_pos rfl]
          refine ⟨_, rfl, n, rfl, (nn n (List.mem_of_getElem? en)).ok, ?_⟩
          rw [take_snoc en, List.map_append]
          refine ⟨_, hD, by rw [List.length_map, List.length_take, sizeLine_eq]; omega, fun a u z => ?_, ?_⟩
          · rw [upd_ne (fun q => by rw [q, nD] at z; cases z)]
            exact s3 _ _ z
          · rw [upd_same]
            rfl
        · rintro H3 ⟨s3, hD⟩
          rw [List.length_map, List.take_length] at hD
          have hl3 := s3 _ _ (s2 _ _ hl)
          have lens : (ns.map fun n => (sI n).length).sum ≤ 60 * ns.length := by
            clear e ht k ht1 e1 hq hD n2
            induction ns with
            | nil => exact Nat.le_refl _
            | cons x r ih =>
              have h1 := ih (fun y hy => nn y (List.mem_cons_of_mem _ hy))
              have h2 := (sI_len (nn x List.mem_cons_self)).2
              rw [List.map_cons, List.sum_cons, List.length_cons]
              omega
          refine ⟨l, D, _, _, rfl, rfl, hl3, hD, by rw [List.length_map, sizeLine_eq]; simp; omega, fun l2 nl2 => ?_⟩
          refine ⟨_, l2, kd :: ns.map sI, rfl, rfl, .inl (SqL.of (by rw [upd_same, List.map_cons, List.map_map]; rfl)), ?_, ?_⟩
          · rw [List.map_cons, List.map_map, List.sum_cons, show (" " : Str).length = 1 by decide, List.length_cons, List.length_map]
            have : (ns.map ((fun x => x.length) ∘ sI)).sum ≤ 60 * ns.length := lens
            omega
          · exact k _ (((s1.trans s2).trans s3).trans (same_upd nl2))
end
end Nu
namespace Nu
open PySem PySem.Spec PyProof.Rows L2
theorem Drw.nl {K : PySem.W.Frag} {H : Hp} {s sc u : Addr} {ns : List Int} {xs : List V} (D : Drw K H s sc ns) (h : H u = some (.lst xs)) (h1 : ∀ i, ¬ xs[1]? = some (.int i)) : u ∉ [s] := fun z => by
  obtain ⟨i, m', r', e, _⟩ := D.at_
  rw [List.mem_singleton.mp z, e] at h
  have h3 := Option.some.inj h
  injection h3 with h3
  exact h1 i (by rw [← h3]; rfl)
theorem Drw.nt {K : PySem.W.Frag} {H : Hp} {s sc u : Addr} {ns : List Int} {xs : List V} (D : Drw K H s sc ns) (h : H u = some (.tup xs)) : u ∉ [s] := fun z => by
  obtain ⟨i, m', r', e, _⟩ := D.at_
  rw [List.mem_singleton.mp z, e] at h
  cases h
theorem strs_one (ws : List Str) (i : Int) : ¬ (ws.map V.str)[1]? = some (.int i) := fun z => by
  rw [List.getElem?_map] at z
  obtain ⟨_, _, e⟩ := Option.map_eq_some_iff.mp z
  cases e
theorem DeedAt.go {K : PySem.W.Frag} {H H' : Hp} {s sc : Addr} {ns : List Int} {G : List Addr} {t : Addr} {Dd : Deed} (h : DeedAt H G t Dd) (D : Drw K H s sc ns) (k : Keep [s] H H') : DeedAt H' G t Dd := by
  cases Dd with
  | report d ws =>
    obtain ⟨h1, aw, h2, h3, h4⟩ := h
    exact ⟨h1, aw, k _ _ h2 (D.nt h2), k _ _ h3 (D.nl h3 (strs_one _)), h4⟩
  | _ => exact ⟨h.1, k _ _ h.2 (D.nt h.2)⟩
theorem numB_s {n : Int} (h : 0 ≤ n ∧ n ≤ 1000) : NumB n := ⟨h.1, by have := h.2; omega⟩
theorem numB_l {n : Int} (h : 0 ≤ n) (h1 : n < 10 ^ 59 + 2000) : NumB n := by
  have e : (10 : Int) ^ 59 + 2000 ≤ 10 ^ 60 := by decide +kernel
  exact ⟨h, by omega⟩
theorem Deed.Few.nb {D : Deed} (h : D.Few) : D.Nb := by
  cases D with
  | lend d m => exact ⟨numB_s h.1, numB_s h.2⟩
  | settle d m => exact ⟨numB_s h.1, numB_s h.2⟩
  | report d ws => exact ⟨numB_s h.1, h.2.1, h.2.2⟩
  | back d => exact numB_s h
  | stop d => exact numB_s h
  | found d => exact numB_s h
theorem deqI' {x : Int} {y : Int} (h : x = y) : decide (V.int x = V.int y) = true := decide_eq_true (by rw [h])
theorem dneI' {x : Int} {y : Int} (h : ¬ x = y) : decide (V.int x = V.int y) = false := decide_eq_false fun z => h (by injection z)
/-- the shapes of a deed's tuple -/
inductive Shp (H : Hp) (G : List Addr) (t : Addr) : Deed → Prop
  | two {D : Deed} (kd : Str) (d : Int) (mk : Int → Deed) (hd : H t = some (.tup [.str kd, .int d])) (hm : ∀ (H' : Hp) (t' : Addr) (n : Int), t' ∉ G → H' t' = some (.tup [.str kd, .int n]) → DeedAt H' G t' (mk n)) (hb : ∀ n, NumB n → (mk n).Nb) : Shp H G t D
  | three {D : Deed} (kd : Str) (d m : Int) (mk : Int → Int → Deed) (hd : H t = some (.tup [.str kd, .int d, .int m])) (hf : ¬ kd = "found") (hr : ¬ kd = "report") (nb : NumB d ∧ NumB m) (hm : ∀ (H' : Hp) (t' : Addr) (n k : Int), t' ∉ G → H' t' = some (.tup [.str kd, .int n, .int k]) → DeedAt H' G t' (mk n k)) (hb : ∀ n k, NumB n → NumB k → (mk n k).Nb) : Shp H G t D
  | rep {D : Deed} (d : Int) (aw : Addr) (ws : List Str) (hd : H t = some (.tup [.str "report", .int d, .ref aw])) (hw : H aw = some (.lst (ws.map V.str))) (nG : aw ∉ G) (ww : Words ws) (wl : ws.length ≤ 900) : Shp H G t D
theorem DeedAt.shp {H : Hp} {G : List Addr} {t : Addr} {D : Deed} (h : DeedAt H G t D) (f : D.Few) : Shp H G t D := by
  cases D with
  | back d => exact .two "back" d .back h.2 (fun _ _ _ a b => ⟨a, b⟩) fun _ h => h
  | stop d => exact .two "stop" d .stop h.2 (fun _ _ _ a b => ⟨a, b⟩) fun _ h => h
  | found d => exact .two "found" d .found h.2 (fun _ _ _ a b => ⟨a, b⟩) fun _ h => h
  | lend d m => exact .three "lend" d m .lend h.2 (by decide +kernel) (by decide +kernel) f.nb (fun _ _ _ _ a b => ⟨a, b⟩) fun _ _ h h' => ⟨h, h'⟩
  | settle d m => exact .three "settle" d m .settle h.2 (by decide +kernel) (by decide +kernel) f.nb (fun _ _ _ _ a b => ⟨a, b⟩) fun _ _ h h' => ⟨h, h'⟩
  | report d ws =>
    obtain ⟨_, aw, h1, h2, h3⟩ := h
    exact .rep d aw ws h1 h2 h3 f.2.1 f.2.2
section
variable {P : Program} {w : World} {K : PySem.W.Frag} {mg : Str → Option Value} {base : Heap} {ad : Ad} {fd : Fd}
def spOdd (K : PySem.W.Frag) : Sp := fun vs H Q _ => ∃ (s sc : Addr) (ns : List Int) (A : La) (M : Lm) (t : Addr) (Dd : Deed) (G : List Addr), vs = [.ref s, .ref A.m, .ref t] ∧ Drw K H s sc ns ∧ Lw H A M ∧ WfM M ∧ s ∉ A.foot ∧ Dd.Few ∧ DeedAt H G t Dd ∧ (∀ c ∈ G, ∃ u, H c = some u) ∧
  ∀ t' D' H', D'.Nb → Keep [s] H H' → Drw K H' s sc ns → DeedAt H' G t' D' → Q (.ref t') H'
theorem ok_l_odd (T : Txt K mg ad fd) : FnOk P w K mg base CX0 2 ad.l_odd fd.l_odd ["_law_state_here", "_law_m", "_law_deed_here"] (spOdd K) := by
  have G_l_drawn := ok_l_drawn (P := P) (w := w) (base := base) T
  refine T.F_l_odd.ok sc_l_odd (fun vs H Q E h => ?_) (fun cdv A0 outer s0 H vs Q E hr h => ?_)
  · obtain ⟨s, sc, ns, A, M, t, Dd, G, rfl, _⟩ := h
    rfl
  · obtain ⟨s, sc, ns, A, M, t, Dd, G, rfl, D, L, W, sA, few, hat, hG, k⟩ := h
    have hu := hu_of hr
    refine ⟨_, (pss_cons (ps_set (i := 3) sc_l_odd.nd rfl (Or.inl rfl) (pe_ix ix_list (pe_lst (pa_cons pe_int (pa_cons (pe_op op_add pe_int (pe_call G_l_drawn (hr.mono (by decide)) (by rfl) T.g_l_drawn T.F_l_drawn.kp T.b_l_drawn .nil pass0 (pa_cons (pv 0) (pa_cons (pe_op op_pow pe_int pe_int) pa_nil)))) pa_nil))) (pe_call G_l_drawn (hr.mono (by decide)) (by rfl) T.g_l_drawn T.F_l_drawn.kp T.b_l_drawn .nil pass0 (pa_cons (pv 0) (pa_cons pe_int pa_nil))) (fun _ _ => rfl)))
    (pss_cons (ps_if (PW.pt (pw_or (pt_cmpR op_eq (pe_ix ix_tup (pv 2) pe_int (fun _ _ => rfl)) pe_str (nomark _)) (pw_or1 (pt_cmpR op_eq (pe_callB call_len_seq (by rfl) T.n_len PySem.boot_len (pa_cons (pv 2) pa_nil)) pe_int (nomark _))))) (pss_one (ps_ret (pe_tup (pa_cons (pe_ix ix_tup (pv 2) pe_int (fun _ _ => rfl)) (pa_cons (pe_op op_add (pv 3) (pe_op op_mul pe_int (pe_callTy call_int1 (by rfl) T.n_int (by decide +kernel) (pa_cons (pe_cmpR op_ne (pe_ix ix_tup (pv 2) pe_int (fun _ _ => rfl)) pe_str (nomark _)) pa_nil)))) pa_nil))))) pss_nil)
    (pss_cons (ps_if (PW.pt (pw_or (pt_cmpR op_eq (pe_ix ix_tup (pv 2) pe_int (fun _ _ => rfl)) pe_str (nomark _)) (pw_or1 (pt_cmpR op_eq (pe_call G_l_drawn (hr.mono (by decide)) (by rfl) T.g_l_drawn T.F_l_drawn.kp T.b_l_drawn .nil pass0 (pa_cons (pv 0) (pa_cons pe_int pa_nil))) pe_int (nomark _))))) (pss_one (ps_ret (pe_tup (pa_cons (pe_ix ix_tup (pv 2) pe_int (fun _ _ => rfl)) (pa_cons (pe_op op_add (pe_callB call_len_seq (by rfl) T.n_len PySem.boot_len (pa_cons (pe_dget hu (pv 1) pe_str (fun _ _ => rfl)) pa_nil)) (pv 3)) (pa_cons (pe_ix ix_tup (pv 2) pe_int (fun _ _ => rfl)) pa_nil)))))) pss_nil)
    (pss_one (ps_ret (pe_tup (pa_cons (pe_ix ix_tup (pv 2) pe_int (fun _ _ => rfl)) (pa_cons (pe_ix ix_tup (pv 2) pe_int (fun _ _ => rfl)) (pa_cons (pv 3) pa_nil))))))))), ?_⟩
    dsimp only
    refine seq_go ?_
    refine ⟨_, rfl, _, _, rfl, rfl, ⟨by decide, by decide, by decide⟩, s, sc, ns, (10 : Int) ^ (59 : Int).toNat, rfl, D, by decide, by decide +kernel, fun v1 H1 v10 v11 k1 D1 => ?_⟩
    refine ⟨_, _, rfl, rfl, ?_⟩
    refine ⟨(by show 2 ≤ sizeLine; decide), fun l1 n1 => ?_⟩
    have D2 := D1.new (o := .lst [V.int 0, V.int (401 + v1)]) n1
    have k2 : Keep [s] H1 (upd H1 l1 (.lst [V.int 0, V.int (401 + v1)])) := Keep.same (same_upd n1)
    have hl : (upd H1 l1 (.lst [V.int 0, V.int (401 + v1)])) l1 = some (.lst [V.int 0, V.int (401 + v1)]) := upd_same
    have l1s := D1.ns n1
    show tCall _ _ _ _ _ (upd H1 l1 (.lst [V.int 0, V.int (401 + v1)])) _
    generalize upd H1 l1 (.lst [V.int 0, V.int (401 + v1)]) = H2 at D2 k2 hl ⊢
    refine ⟨_, rfl, s, sc, ns, 2, rfl, D2, by decide, by decide, fun v2 H3 v20 v21 k3 D3 => ?_⟩
    have k03 := (k1.trans k2).trans k3
    obtain ⟨far, ef, f0, f1⟩ : ∃ far : Int, (if v2 = 0 then V.int 0 else V.int (401 + v1)) = V.int far ∧ 0 ≤ far ∧ far < 10 ^ 59 + 402 := by
      have e59 : (10 : Int) ^ (59 : Int).toNat = 10 ^ 59 := rfl
      rw [e59] at v11
      by_cases c : v2 = 0
      · exact ⟨0, if_pos c, by decide, by decide +kernel⟩
      · exact ⟨401 + v1, if_neg c, by omega, by omega⟩
    refine ⟨l1, _, v2, _, rfl, rfl, SqL.of (k3 _ _ hl l1s), (at_two v20 v21 _ _).trans (congrArg some ef), ?_⟩
    refine gName_go ?_
    dsimp only
    refine seq_go ?_
    have hat3 := hat.go D k03
    have L3 : Lw H3 A M := L.stay fun c hc u e => k03 c u e (fun z => sA (by rw [← List.mem_singleton.mp z]; exact hc))
    have d6 := W.d6
    have outG : ∀ {H' : Hp} {t' : Addr}, Keep [s] H H' → Drw K H' s sc ns → H' t' = none → t' ∉ G := fun {H' t'} kp D' ht' z => by
      obtain ⟨u, e⟩ := hG _ z
      have := kp _ _ e (D'.ns ht')
      rw [ht'] at this
      cases this
    cases hat3.shp few with
    | two kd d mk hd hm hb =>
      have q01 : ∀ b : Bool, (0 : Int) ≤ (if b = true then 1 else 0) ∧ (if b = true then (1 : Int) else 0) ≤ 1 := fun b => by cases b <;> exact ⟨by decide, by decide⟩
      have qb : ∀ b : Bool, (-2 ^ 64 : Int) < (if b = true then 1 else 0) ∧ (if b = true then (1 : Int) else 0) < 2 ^ 64 := fun b => by cases b <;> exact ⟨by decide, by decide⟩
      refine ifS_two (fun H' => H' = H3) (fun _ => False) (fun Q' q1 _ => ?_) ?_ (fun _ z => z.elim)
      · refine ⟨_, rfl, t, _, 0, _, rfl, rfl, SqT.of hd, rfl, rfl, _, rfl, ?_⟩
        by_cases c : kd = "found"
        · rw [deqT c]
          exact iteT (q1 _ rfl)
        · rw [deqF c]
          refine iteF ?_
          refine ⟨_, rfl, t, _, rfl, .inr (SqT.of hd), rfl, _, rfl, ?_⟩
          rw [decide_eq_true (show V.int (([V.str kd, V.int d] : List V).length : Int) = V.int 2 from rfl)]
          exact q1 _ rfl
      · rintro H' rfl
        refine ⟨_, rfl, t, _, 0, _, rfl, rfl, SqT.of hd, rfl, ?_⟩
        refine ⟨_, rfl, _, rfl, t, _, 0, _, rfl, rfl, SqT.of hd, rfl, rfl, .inr ⟨_, rfl, _, _, rfl, rfl, .inr (qb _), _, _, rfl, rfl, (by show 2 ≤ sizeLine; decide), fun t' nt' => ?_⟩⟩
        have := q01 (!decide (V.str kd = V.str ("found" : Str)))
        exact k t' (mk (far + 6 * (if (!decide (V.str kd = V.str ("found" : Str))) = true then 1 else 0))) _ (hb _ (numB_l (by omega) (by omega))) (k03.trans (Keep.same (same_upd nt'))) (D3.new nt') (hm _ _ _ (outG k03 D3 nt') upd_same)
    | three kd d m mk hd hf hr nb hm hb =>
      refine ifS_two (fun _ => False) (fun H' => H' = H3) (fun Q' _ q0 => ?_) (fun _ z => z.elim) ?_
      · refine ⟨_, rfl, t, _, 0, _, rfl, rfl, SqT.of hd, rfl, rfl, _, rfl, ?_⟩
        rw [deqF hf]
        refine iteF ?_
        refine ⟨_, rfl, t, _, rfl, .inr (SqT.of hd), rfl, _, rfl, ?_⟩
        rw [decide_eq_false (show ¬ V.int (([V.str kd, V.int d, V.int m] : List V).length : Int) = V.int 2 from fun z => by injection z with z; exact absurd (show ((3 : Nat) : Int) = 2 from z) (by decide))]
        exact q0 _ rfl
      · rintro H' rfl
        refine next_go ?_
        dsimp only
        refine seq_go ?_
        refine ⟨_, rfl, t, _, 0, _, rfl, rfl, SqT.of hd, rfl, rfl, _, rfl, ?_⟩
        rw [deqF hr]
        refine iteF ?_
        refine ⟨_, rfl, s, sc, ns, 2, rfl, D3, by decide, by decide, fun v3 H4 v30 v31 k4 D4 => ⟨rfl, _, rfl, ?_⟩⟩
        have k04 := k03.trans k4
        have hd4 := k4 _ _ hd (D3.nt hd)
        have L4 : Lw H4 A M := L3.stay fun c hc u e => k4 c u e (fun z => sA (by rw [← List.mem_singleton.mp z]; exact hc))
        by_cases c0 : v3 = 0
        · rw [deqI' c0]
          refine iteT ?_
          refine ⟨_, rfl, t, _, 0, _, rfl, rfl, SqT.of hd4, rfl, ?_⟩
          refine rd_my L4 rfl ?_
          refine ⟨A.aY, _, rfl, .inl (SqL.of L4.ly), _, rfl, _, _, rfl, rfl, _, rfl, t, _, 2, _, rfl, rfl, SqT.of hd4, rfl, (by show 3 ≤ sizeLine; decide), fun t' nt' => ?_⟩
          have ll : (A.ys.map V.ref).length ≤ 6 := by rw [List.length_map, L4.ll]; exact d6
          exact k t' (mk ((((A.ys.map V.ref).length : Nat) : Int) + far) m) _ (hb _ _ (numB_l (by omega) (by omega)) nb.2) (k04.trans (Keep.same (same_upd nt'))) (D4.new nt') (hm _ _ _ _ (outG k04 D4 nt') upd_same)
        · rw [dneI' c0]
          refine iteF ?_
          refine next_go ?_
          dsimp only
          refine ⟨_, rfl, t, _, 0, _, rfl, rfl, SqT.of hd4, rfl, _, rfl, t, _, 1, _, rfl, rfl, SqT.of hd4, rfl, _, rfl, (by show 3 ≤ sizeLine; decide), fun t' nt' => ?_⟩
          exact k t' (mk d far) _ (hb _ _ nb.1 (numB_l (by omega) (by omega))) (k04.trans (Keep.same (same_upd nt'))) (D4.new nt') (hm _ _ _ _ (outG k04 D4 nt') upd_same)
    | rep d aw ws hd hw nG ww wl =>
      refine ifS_two (fun _ => False) (fun H' => H' = H3) (fun Q' _ q0 => ?_) (fun _ z => z.elim) ?_
      · refine ⟨_, rfl, t, _, 0, _, rfl, rfl, SqT.of hd, rfl, rfl, _, rfl, ?_⟩
        rw [sne]
        refine iteF ?_
        refine ⟨_, rfl, t, _, rfl, .inr (SqT.of hd), rfl, _, rfl, ?_⟩
        rw [decide_eq_false (show ¬ V.int (([V.str "report", V.int d, V.ref aw] : List V).length : Int) = V.int 2 from fun z => by injection z with z; exact absurd (show ((3 : Nat) : Int) = 2 from z) (by decide))]
        exact q0 _ rfl
      · rintro H' rfl
        refine next_go ?_
        dsimp only
        refine seq_go ?_
        refine ⟨_, rfl, t, _, 0, _, rfl, rfl, SqT.of hd, rfl, rfl, _, rfl, ?_⟩
        rw [deqT rfl]
        refine iteT (iteT ?_)
        refine ⟨_, rfl, t, _, 0, _, rfl, rfl, SqT.of hd, rfl, ?_⟩
        refine rd_my L3 rfl ?_
        refine ⟨A.aY, _, rfl, .inl (SqL.of L3.ly), _, rfl, _, _, rfl, rfl, _, rfl, t, _, 2, _, rfl, rfl, SqT.of hd, rfl, (by show 3 ≤ sizeLine; decide), fun t' nt' => ?_⟩
        have ll : (A.ys.map V.ref).length ≤ 6 := by rw [List.length_map, L3.ll]; exact d6
        exact k t' (.report ((((A.ys.map V.ref).length : Nat) : Int) + far) ws) _ ⟨numB_l (by omega) (by omega), ww, wl⟩ (k03.trans (Keep.same (same_upd nt'))) (D3.new nt') ⟨outG k03 D3 nt', aw, upd_same, same_upd nt' _ _ hw, nG⟩
end
end Nu
namespace Nu
open PySem PySem.Spec PyProof.Rows L2
/-! ### a deed's text, read -/
theorem numL_head (n : Nat) : 1 ≤ n → ¬ (TL.numL n)[0]? = some 48 := by
  induction n using Nat.strongRecOn with
  | _ n ih =>
    intro h1 e
    by_cases h : n < 10
    · rw [TL.numL_lt h] at e
      have : 48 + n = 48 := Option.some.inj e
      omega
    · rw [TL.numL_step (by omega)] at e
      have ne := TL.numL_ne (n / 10)
      rw [List.getElem?_append_left (by
        cases q : TL.numL (n / 10) with
        | nil => exact absurd q ne
        | cons x r => simp)] at e
      exact ih (n / 10) (by omega) (by omega) e
theorem numOk_sI {n : Int} (h : NumB n) : numOk (sI n) = true := by
  have l := sI_len h
  have t : (sI n).cps.toList = TL.numL n.toNat := sI_tl h
  unfold numOk
  rw [decide_eq_true l.1, decide_eq_true l.2, t]
  have all : (TL.numL n.toNat).all isFig = true := List.all_eq_true.mpr fun c hc => by
    have := TL.numL_digits _ c hc
    unfold isFig
    refine decide_eq_true ?_
    simp
    omega
  rw [all]
  by_cases c : n.toNat = 0
  · have : (sI n).length = 1 := by
      rw [TL.len_tl, sI_tl h, c]
      rfl
    rw [decide_eq_false (show ¬ 1 < (sI n).length by omega), Bool.and_false]
    rfl
  · rw [decide_eq_false (numL_head _ (by omega))]
    rfl
theorem numV_sI {n : Int} (h : NumB n) : numV (sI n) = n := by
  unfold numV
  rw [sI_tl h, TL.numL_val]
  have := h.1
  omega
theorem free_asc {x : Str} (h : x.cps.all (fun c => !decide (c = 32) && decide (c < 128)) = true) : ∀ c ∈ TL.tl x, c ≠ 32 ∧ c < 128 := fun c hm => by
  rw [← Array.all_toList] at h
  have := List.all_eq_true.mp h c hm
  rw [Bool.and_eq_true] at this
  refine ⟨fun z => ?_, of_decide_eq_true this.2⟩
  rw [decide_eq_true z] at this
  exact absurd this.1 Bool.false_ne_true
theorem toksC {D : Deed} (h : D.Nb) : ∀ x ∈ toks D, ∀ c ∈ TL.tl x, c ≠ 32 ∧ c < 128 := by
  have fs : ∀ {n : Int}, NumB n → ∀ c ∈ TL.tl (sI n), c ≠ 32 ∧ c < 128 := fun hn c hc => by
    rw [sI_tl hn] at hc
    have := TL.numL_digits _ c hc
    omega
  have two : ∀ {k : Str} {d m : Int}, (∀ c ∈ TL.tl k, c ≠ 32 ∧ c < 128) → NumB d → NumB m → ∀ x ∈ [k, sI d, sI m], ∀ c ∈ TL.tl x, c ≠ 32 ∧ c < 128 := fun {k d m} h1 h2 h3 x hx => by
    rcases List.mem_cons.mp hx with rfl | hx
    · exact h1
    · rcases List.mem_cons.mp hx with rfl | hx
      · exact fs h2
      · rw [List.mem_singleton.mp hx]; exact fs h3
  have one : ∀ {k : Str} {d : Int}, (∀ c ∈ TL.tl k, c ≠ 32 ∧ c < 128) → NumB d → ∀ x ∈ [k, sI d], ∀ c ∈ TL.tl x, c ≠ 32 ∧ c < 128 := fun {k d} h1 h2 x hx => by
    rcases List.mem_cons.mp hx with rfl | hx
    · exact h1
    · rw [List.mem_singleton.mp hx]; exact fs h2
  cases D with
  | lend d m => exact two (free_asc (by decide +kernel)) h.1 h.2
  | settle d m => exact two (free_asc (by decide +kernel)) h.1 h.2
  | back d => exact one (free_asc (by decide +kernel)) h
  | stop d => exact one (free_asc (by decide +kernel)) h
  | found d => exact one (free_asc (by decide +kernel)) h
  | report d ws =>
    intro x hx
    rcases List.mem_cons.mp hx with rfl | hx
    · exact free_asc (by decide +kernel)
    · rcases List.mem_cons.mp hx with rfl | hx
      · exact fs h.1
      · rcases h.2.1 x hx with rfl | rfl
        · exact free_asc (by decide +kernel)
        · exact free_asc (by decide +kernel)
theorem toks_free {D : Deed} (h : D.Nb) : ∀ x ∈ toks D, 32 ∉ TL.tl x := fun x hx hm => (toksC h x hx 32 hm).1 rfl
theorem mem_joinL {S : List Nat} {c : Nat} : ∀ (ps : List (List Nat)), c ∈ TL.joinL S ps → c ∈ S ∨ ∃ p ∈ ps, c ∈ p
  | [], h => by cases h
  | [p], h => .inr ⟨p, List.mem_singleton.mpr rfl, h⟩
  | p :: q :: r, h => by
    have h : c ∈ p ++ (S ++ TL.joinL S (q :: r)) := h
    rcases List.mem_append.mp h with h | h
    · exact .inr ⟨p, List.mem_cons_self, h⟩
    · rcases List.mem_append.mp h with h | h
      · exact .inl h
      · rcases mem_joinL (q :: r) h with h | ⟨p', h1, h2⟩
        · exact .inl h
        · exact .inr ⟨p', List.mem_cons_of_mem _ h1, h2⟩
theorem sp_text {D : Deed} (h : D.Nb) : sp (textOf D) = toks D := by
  refine TL.split_join (s := 32) (S := []) rfl (by decide +kernel) ?_ (toks_free h)
  cases D <;> exact List.cons_ne_nil _ _
def Deed.mute : Deed → Prop
  | .report _ ws => ws = []
  | _ => False
theorem rd_text {D : Deed} (h : D.Nb) : (D.mute → rd (sp (textOf D)) = none) ∧ (¬ D.mute → rd (sp (textOf D)) = some D) := by
  rw [sp_text h]
  have ne : ∀ {x y : Str}, decide (x = y) = false → ¬ x = y := fun h => of_decide_eq_false h
  cases D with
  | lend d m =>
    refine ⟨fun z => z.elim, fun _ => ?_⟩
    unfold rd toks
    dsimp only
    rw [if_neg (ne (by decide +kernel)), if_pos rfl, numOk_sI h.1, numOk_sI h.2, numV_sI h.1, numV_sI h.2]
    rfl
  | settle d m =>
    refine ⟨fun z => z.elim, fun _ => ?_⟩
    unfold rd toks
    dsimp only
    rw [if_neg (ne (by decide +kernel)), if_neg (ne (by decide +kernel)), if_pos rfl, numOk_sI h.1, numOk_sI h.2, numV_sI h.1, numV_sI h.2]
    rfl
  | back d =>
    refine ⟨fun z => z.elim, fun _ => ?_⟩
    unfold rd toks
    dsimp only
    rw [if_neg (ne (by decide +kernel)), if_neg (ne (by decide +kernel)), if_neg (ne (by decide +kernel)), if_pos rfl, numOk_sI h, numV_sI h]
    rfl
  | stop d =>
    refine ⟨fun z => z.elim, fun _ => ?_⟩
    unfold rd toks
    dsimp only
    rw [if_neg (ne (by decide +kernel)), if_neg (ne (by decide +kernel)), if_neg (ne (by decide +kernel)), if_neg (ne (by decide +kernel)), if_pos rfl, numOk_sI h, numV_sI h]
    rfl
  | found d =>
    refine ⟨fun z => z.elim, fun _ => ?_⟩
    unfold rd toks
    dsimp only
    rw [if_neg (ne (by decide +kernel)), if_neg (ne (by decide +kernel)), if_neg (ne (by decide +kernel)), if_neg (ne (by decide +kernel)), if_neg (ne (by decide +kernel)), if_pos rfl, numOk_sI h, numV_sI h]
    rfl
  | report d ws =>
    refine ⟨fun z => ?_, fun z => ?_⟩
    · have z : ws = [] := z
      subst z
      unfold rd toks
      dsimp only
      rw [if_pos rfl]
    · cases ws with
      | nil => exact absurd rfl z
      | cons b t =>
        unfold rd toks
        dsimp only
        have ha : (b :: t).all wordOk = true := List.all_eq_true.mpr fun x hx => by
          unfold wordOk
          rcases h.2.1 x hx with rfl | rfl
          · rw [decide_eq_true rfl]; rfl
          · rw [decide_eq_true (show ("spoilt" : Str) = "spoilt" from rfl), Bool.or_true]
        rw [if_pos rfl, numOk_sI h.1, numV_sI h.1, ha]
        rfl
theorem text_tx {D : Deed} (h : D.Nb) : Tx (textOf D) := by
  have hw : ((toks D).map (·.length)).sum + (toks D).length ≤ 10000 ∧ (toks D).length ≤ 902 := by
    cases D with
    | lend d m =>
      have := sI_len h.1
      have := sI_len h.2
      show (("lend" : Str).length :: (sI d).length :: (sI m).length :: []).sum + 3 ≤ 10000 ∧ 3 ≤ 902
      rw [List.sum_cons, List.sum_cons, List.sum_cons, show ("lend" : Str).length = 4 by decide, List.sum_nil]
      omega
    | settle d m =>
      have := sI_len h.1
      have := sI_len h.2
      show (("settle" : Str).length :: (sI d).length :: (sI m).length :: []).sum + 3 ≤ 10000 ∧ 3 ≤ 902
      rw [List.sum_cons, List.sum_cons, List.sum_cons, show ("settle" : Str).length = 6 by decide, List.sum_nil]
      omega
    | back d =>
      have := sI_len h
      show (("back" : Str).length :: (sI d).length :: []).sum + 2 ≤ 10000 ∧ 2 ≤ 902
      rw [List.sum_cons, List.sum_cons, show ("back" : Str).length = 4 by decide, List.sum_nil]
      omega
    | stop d =>
      have := sI_len h
      show (("stop" : Str).length :: (sI d).length :: []).sum + 2 ≤ 10000 ∧ 2 ≤ 902
      rw [List.sum_cons, List.sum_cons, show ("stop" : Str).length = 4 by decide, List.sum_nil]
      omega
    | found d =>
      have := sI_len h
      show (("found" : Str).length :: (sI d).length :: []).sum + 2 ≤ 10000 ∧ 2 ≤ 902
      rw [List.sum_cons, List.sum_cons, show ("found" : Str).length = 5 by decide, List.sum_nil]
      omega
    | report d ws =>
      have := sI_len h.1
      have := words_len h.2.1
      have := h.2.2
      show (("report" : Str).length :: (sI d).length :: ws.map (·.length)).sum + (ws.length + 1 + 1) ≤ 10000 ∧ ws.length + 1 + 1 ≤ 902
      rw [List.sum_cons, List.sum_cons, show ("report" : Str).length = 6 by decide]
      omega
  refine ⟨?_, by rw [sp_text h]; omega⟩
  unfold textOf
  rw [TL.join_eq]
  have := StrLaws.join_length_le " " (toks D)
  rw [show (" " : Str).length = 1 by decide] at this
  omega
theorem text_asc {D : Deed} (h : D.Nb) : flS (.str (textOf D)) = true := by
  show PyData.canLay0 (.str (textOf D)) = true
  simp only [PyData.canLay0]
  unfold PyData.strOk
  rw [← Array.all_toList]
  refine List.all_eq_true.mpr fun c hc => decide_eq_true ?_
  have hc : c ∈ TL.tl (textOf D) := hc
  unfold textOf at hc
  rw [TL.join_eq, TL.tl_join] at hc
  rcases mem_joinL _ hc with h' | ⟨p, h1, h2⟩
  · have : c ∈ [32] := h'
    rw [List.mem_singleton.mp this]
    decide
  · obtain ⟨x, hx, rfl⟩ := List.mem_map.mp h1
    have := (toksC h x hx c h2).2
    omega
theorem DeedAt.kd {H : Hp} {G : List Addr} {t : Addr} {D : Deed} (h : DeedAt H G t D) : ∃ xs, H t = some (.tup xs) ∧ xs[0]? = some (.str D.kind) := by
  cases D with
  | report d ws =>
    obtain ⟨h1, aw, h2, h3, h4⟩ := h
    exact ⟨_, h2, rfl⟩
  | _ => exact ⟨_, h.2, rfl⟩
theorem lend_pair {M M' : Lm} {d m : Int} {y : Out} (h : StepM M (.lend d m) y M') : (∃ z, y = .word z) ∨ ∃ f l, y = .pair f l ∧ 1 ≤ f ∧ l ≤ (M.top : Int) ∧ f ≤ l := by
  cases h with
  | noDesk _ _ => exact .inl ⟨_, rfl⟩
  | stopped _ _ _ => exact .inl ⟨_, rfl⟩
  | noCount _ _ => exact .inl ⟨_, rfl⟩
  | noRoom _ _ _ => exact .inl ⟨_, rfl⟩
  | lend hg h hf => exact .inr ⟨_, _, rfl, hf.1.1, hf.1.2.1, by omega⟩
theorem ans_done {M M' : Lm} {D : Deed} {y : Out} (h : StepM M D y M') (hk : ¬ D.kind = "lend") (hw : ∀ z, y ≠ .word z) : ansO y = "done" := by
  cases h with
  | lend hg h hf => exact absurd rfl hk
  | report _ _ _ => rfl
  | back _ _ _ => rfl
  | stop _ => rfl
  | settle _ _ _ _ _ => rfl
  | found _ _ _ _ _ => rfl
  | _ => exact absurd rfl (hw _)
def AnsM (M : Lm) (x z : Str) (M' : Lm) : Prop := (rd (sp x) = none ∧ M' = M ∧ z = "BadRow") ∨ ∃ D y, rd (sp x) = some D ∧ StepM M D y M' ∧ z = ansO y
section
variable {P : Program} {w : World} {K : PySem.W.Frag} {mg : Str → Option Value} {base : Heap} {a : Ad} {fd : Fd}
def spLAnswer : Sp := fun vs H Q _ => ∃ (A : La) (M : Lm) (t : Addr) (D : Deed), vs = [.ref A.m, .ref t] ∧ Lw H A M ∧ WfM M ∧ Rng M ∧ LM M ∧ D.Nb ∧ DeedAt H A.foot t D ∧
  ∀ z M' A' H', AnsM M (textOf D) z M' → LBeh H H' A A' M' → Q (.str z) H'
theorem Deed.Nb.ok {D : Deed} (h : D.Nb) : D.Ok := by
  cases D with
  | lend d m => exact ⟨h.1.ok, h.2.ok⟩
  | settle d m => exact ⟨h.1.ok, h.2.ok⟩
  | back d => exact NumB.ok h
  | stop d => exact NumB.ok h
  | found d => exact NumB.ok h
  | report d ws =>
    refine ⟨h.1.ok, fun x hx => ?_, by have := h.2.2; omega⟩
    rcases h.2.1 x hx with rfl | rfl
    · decide +kernel
    · decide +kernel
theorem ok_l_answer (T : Txt K mg a fd) : FnOk P w K mg base CX0 4 a.l_answer fd.l_answer ["_law_m", "_law_deed_here"] spLAnswer := by
  have G_l_due := ok_l_due (P := P) (w := w) (base := base) T
  refine T.F_l_answer.ok sc_l_answer (fun vs H Q E h => ?_) (fun cdv A0 outer s0 H vs Q E hr h => ?_)
  · obtain ⟨A, M, t, D, rfl, _⟩ := h
    rfl
  · obtain ⟨A, M, t, D, rfl, L, W, R, C, nb, hat, k⟩ := h
    have hu := hu_of hr
    have rdt := rd_text nb
    refine ⟨_, (pss_cons (ps_if (PW.pt (pw_and (pt_cmpR op_eq (pe_ix ix_tup (pv 1) pe_int (fun _ _ => rfl)) pe_str (nomark _)) (pw_and1 (pt_cmpR (op_eqD hr.units) (pe_ix ix_tup (pv 1) pe_int (fun _ _ => rfl)) (pe_lst pa_nil) (nomark _))))) (pss_one (ps_ret pe_str)) pss_nil)
    (pss_cons (ps_set (i := 2) sc_l_answer.nd rfl (Or.inl rfl) (pe_call G_l_due (hr.mono (by decide)) (by rfl) T.g_l_due T.F_l_due.kp T.b_l_due .nil pass0 (pa_cons (pv 0) (pa_cons (pv 1) pa_nil))))
    (pss_cons (ps_if (pt_val (pe_callB call_isi (by rfl) T.n_isinstance (by decide +kernel) (pa_cons (pv 2) (pa_cons (pe_bltn (v := .ty "str") (by rfl) T.n_str (by decide +kernel) rfl) pa_nil)))) (pss_one (ps_ret (pv 2))) pss_nil)
    (pss_one (ps_ret (pe_ifExp (pt_cmpR op_eq (pe_ix ix_tup (pv 1) pe_int (fun _ _ => rfl)) pe_str (nomark _)) (pe_op op_add_str (pe_op op_add_str (pe_callTy call_str_int (by rfl) T.n_str (by decide +kernel) (pa_cons (pe_ix ix_seq (pv 2) pe_int (fun _ _ => rfl)) pa_nil)) pe_str) (pe_callTy call_str_int (by rfl) T.n_str (by decide +kernel) (pa_cons (pe_ix ix_seq (pv 2) pe_int (fun _ _ => rfl)) pa_nil))) pe_str)))))), ?_⟩
    dsimp only
    refine seq_go ?_
    refine ifS_two (fun H' => Same H H' ∧ D.mute) (fun H' => Same H H' ∧ ¬ D.mute) (fun Q' q1 q0 => ?_) ?_ ?_
    · obtain ⟨xs, ht, hx0⟩ := hat.kd
      refine ⟨_, rfl, t, _, 0, _, rfl, rfl, SqT.of ht, atI_nat (j := 0) hx0, rfl, _, rfl, ?_⟩
      by_cases hk : D.kind = "report"
      · rw [deqT hk]
        refine iteT ?_
        obtain ⟨d, ws, rfl⟩ : ∃ d ws, D = .report d ws := by
          cases D with
          | report d ws => exact ⟨d, ws, rfl⟩
          | lend _ _ => exact absurd hk (show ¬ (("lend" : Str) = "report") by decide +kernel)
          | back _ => exact absurd hk (show ¬ (("back" : Str) = "report") by decide +kernel)
          | stop _ => exact absurd hk (show ¬ (("stop" : Str) = "report") by decide +kernel)
          | found _ => exact absurd hk (show ¬ (("found" : Str) = "report") by decide +kernel)
          | settle _ _ => exact absurd hk (show ¬ (("settle" : Str) = "report") by decide +kernel)
        obtain ⟨_, aw, ht', hw, _⟩ := hat
        refine ⟨_, rfl, t, _, 2, _, rfl, rfl, SqT.of ht', rfl, Nat.zero_le _, fun e ne => ?_⟩
        refine eq_nil (same_upd ne _ _ hw) upd_same (fun v hv => ?_) ⟨_, rfl, ?_⟩
        · obtain ⟨x, hx, rfl⟩ := List.mem_map.mp hv
          exact nb.ok.2.1 x hx
        · cases ws with
          | nil => exact q1 _ ⟨same_upd ne, rfl⟩
          | cons x r => exact q0 _ ⟨same_upd ne, fun z => by cases z⟩
      · rw [deqF hk]
        refine iteF (q0 _ ⟨Same.refl _, fun z => ?_⟩)
        cases D with
        | report d ws => exact hk rfl
        | _ => exact z
    · rintro H1 ⟨s1, mu⟩
      exact k _ M A H1 (.inl ⟨rdt.1 mu, rfl, rfl⟩) (LBeh.refl L s1)
    · rintro H1 ⟨s1, nm⟩
      refine next_go ?_
      dsimp only
      refine seq_go ?_
      have L1 : Lw H1 A M := L.stay fun c _ u e => s1 c u e
      have hat1 : DeedAt H1 A.foot t D := hat.mono (Keep.same s1) fun c _ n => n
      refine ⟨_, rfl, _, rfl, A, M, t, D, rfl, L1, W, R, C, nb.ok, hat1, fun y M' A' H2 v st LB out new => ?_⟩
      have LB' : LBeh H H2 A A' M' := ⟨(Keep.same s1).trans LB.kp, fun c hc => (LB.ff c hc).imp id s1.free, LB.mm, LB.lw⟩
      have fin : Q (.str (ansO y)) H2 := k _ M' A' H2 (.inr ⟨D, y, rdt.2 nm, st, rfl⟩) LB'
      refine gName_go ?_
      dsimp only
      refine seq_go ?_
      by_cases hw : ∃ z, y = .word z
      · obtain ⟨z, rfl⟩ := hw
        rw [show v = .str z from out]
        refine ⟨_, rfl, _, _, _, _, _, rfl, .ty "str", .base (.str z), kit_ty (r := true) (by decide +kernel), _, rfl, iteT ?_⟩
        exact ⟨_, rfl, fin⟩
      · have ty : ∃ T, TyX K H2 v (.type T) ∧ kitB T "str" = some false := by
          cases y with
          | word z => exact absurd ⟨z, rfl⟩ hw
          | pair f l =>
            obtain ⟨t', rfl, h'⟩ := out
            exact ⟨_, .base (.tup h'), by decide +kernel⟩
          | nums ms =>
            obtain ⟨t', rfl, h'⟩ := out
            exact ⟨_, .base (.lst h'), by decide +kernel⟩
          | non =>
            rw [show v = .non from out]
            exact ⟨_, .base .non, by decide +kernel⟩
        obtain ⟨T', hT, hk⟩ := ty
        refine ⟨_, rfl, _, _, _, _, _, rfl, .ty "str", hT, kit_ty hk, _, rfl, iteF ?_⟩
        refine next_go ?_
        dsimp only
        have hat2 := hat1.mono (G' := A.foot) LB.kp (fun c _ n => n)
        obtain ⟨xs, ht, hx0⟩ := hat2.kd
        refine ⟨_, rfl, t, xs, 0, _, rfl, rfl, SqT.of ht, atI_nat (j := 0) hx0, rfl, _, rfl, ?_⟩
        by_cases hl : D.kind = "lend"
        · rw [deqT hl]
          refine iteT ?_
          obtain ⟨d, m, rfl⟩ : ∃ d m, D = .lend d m := by
            cases D with
            | lend d m => exact ⟨d, m, rfl⟩
            | report _ _ => exact absurd hl (show ¬ (("report" : Str) = "lend") by decide +kernel)
            | back _ => exact absurd hl (show ¬ (("back" : Str) = "lend") by decide +kernel)
            | stop _ => exact absurd hl (show ¬ (("stop" : Str) = "lend") by decide +kernel)
            | found _ => exact absurd hl (show ¬ (("found" : Str) = "lend") by decide +kernel)
            | settle _ _ => exact absurd hl (show ¬ (("settle" : Str) = "lend") by decide +kernel)
          rcases lend_pair st with z | ⟨f, l, rfl, f1, l1, fl⟩
          · exact absurd z hw
          · obtain ⟨t', rfl, h'⟩ := out
            have t4 := W.t400
            have n1 := len_num (x := f) (by omega) (by omega)
            have n2 := len_num (x := l) (by omega) (by omega)
            have n3 : ((toString f : Str) ++ ("-" : Str)).length ≤ 6 := by
              rw [Str.length_append, show ("-" : Str).length = 1 by decide]
              omega
            refine ⟨_, rfl, .inr (.inl ⟨t', _, 0, _, rfl, rfl, SqT.of h', rfl, f, rfl, okS (by omega) (by omega), _, _, rfl, rfl, by rw [show ("-" : Str).length = 1 by decide, sizeLine_eq]; omega, ?_⟩)⟩
            refine ⟨_, rfl, .inr (.inl ⟨t', _, 1, _, rfl, rfl, SqT.of h', rfl, l, rfl, okS (by omega) (by omega), _, _, rfl, rfl, by rw [sizeLine_eq]; omega, ?_⟩)⟩
            exact fin
        · rw [deqF hl]
          refine iteF ?_
          rw [ans_done st hl (fun z h => hw ⟨z, h⟩)] at fin
          exact fin
end
end Nu
namespace Nu
open PySem PySem.Spec PyProof.Rows L2
section
variable {P : Program} {w : World} {K : PySem.W.Frag} {mg : Str → Option Value} {base : Heap} {a : Ad} {fd : Fd}
def spNoOffice : Sp := fun vs H Q _ => ∃ (t d : Int), vs = [.int t, .int d] ∧ t.natAbs.log2 < 1920 ∧ d.natAbs.log2 < 1920 ∧ ¬ (1 ≤ t ∧ t ≤ 400 ∧ 1 ≤ d ∧ d ≤ 6) ∧ ∀ H', Same H H' → Q (.bl true) H'
theorem ok_l_no_office (T : Txt K mg a fd) (ND : NumD K w a.NUMBERS) (XM : XM9 K a) (XO : PySem.W.exmOne K (.ref a.NoOffice) (.ref a.NoOffice) = some true) : FnOk P w K mg base CX0 8 a.l_no_office fd.l_no_office ["_law_top", "_law_desks"] spNoOffice := by
  have G_played := ok_played (P := P) (w := w) (base := base) T ND XM
  refine T.F_l_no_office.ok sc_l_no_office (fun vs H Q E h => ?_) (fun cdv A0 outer s0 H vs Q E hr h => ?_)
  · obtain ⟨t, d, rfl, _⟩ := h
    rfl
  · obtain ⟨t, d, rfl, ht, hd, hn, k⟩ := h
    have hu := hu_of hr
    refine ⟨_, (pss_cons (ps_try_many rfl rfl takes0 (fun W pn xe tk _ => (pss_one (ps_expr (pe_callS G_played (hr.mono (by decide)) (by rfl) T.g_played T.F_played.kp T.b_played (fun σ => passAt tk σ) (pa_cons (pv 0) (pa_cons (pv 1) (pa_cons (pe_lst pa_nil) pa_nil)))))))
      (.cons ⟨rfl, by decide, .inl T.x_NoOffice.g⟩ (fun a oe cls d pn hz hf => (pss_one (ps_ret pe_bl)))
      .nil))
    (pss_one (ps_ret pe_bl))), ?_⟩
    dsimp only
    refine seq_go ?_
    refine ⟨_, rfl, _, rfl, Nat.zero_le _, fun e ne => ?_⟩
    have s1 : Same H (upd H e (.lst [])) := same_upd ne
    refine ⟨t, d, e, [], rfl, ht, hd, upd_same, by decide, (fun x hx => by cases hx), fun _ H2 s2 => ?_, fun c => absurd c hn⟩
    refine ⟨true, XO, fun _ ex nex => ?_, fun z => by cases z⟩
    exact k _ (s1.trans s2)
end
end Nu
namespace Nu
open PySem PySem.Spec PyProof.Rows L2
theorem smd_up {H : Hp} : ∀ {n : Nat} {x y : V}, SmD H n x y → SmD H (n + 1) x y
  | 0, _, _, h => h.elim
  | n + 1, x, y, h => h.elim .inl fun ⟨p, q, xs, ys, b, e1, e2, h1, h2, h3, h4, h5⟩ => .inr ⟨p, q, xs, ys, b, e1, e2, h1, h2, h3, h4, fun i u v a b => smd_up (h5 i u v a b)⟩
theorem RunO.sgl {o o' : Of} {xs as : List Str} (h : RunO o xs as o') : o'.sg.length = o.sg.length := by
  induction h with
  | nil => rfl
  | bad _ _ ih => exact ih
  | step _ _ st ih => rw [st.sgl, ih]
theorem snoc_at' {α : Type} {l : List α} {x y : α} {i : Nat} (h : (l ++ [x])[i]? = some y) : (l[i]? = some y ∧ i < l.length) ∨ (i = l.length ∧ y = x) := by
  by_cases c : i < l.length
  · rw [List.getElem?_append_left c] at h
    exact .inl ⟨h, c⟩
  · rw [List.getElem?_append_right (by omega)] at h
    have : i - l.length = 0 := by
      have := (List.getElem?_eq_some_iff.mp h).1
      simp at this
      omega
    rw [this] at h
    cases h
    exact .inr ⟨by omega, rfl⟩
theorem smd_strs {H : Hp} {p q : Addr} {zs : List Str} (hp : H p = some (.lst (zs.map V.str))) (hq : H q = some (.lst (zs.map V.str))) (hl : zs.length ≤ 1000) : SmD H 3 (.ref p) (.ref q) := by
  refine .inr ⟨p, q, _, _, true, rfl, rfl, hp, hq, rfl, by rw [List.length_map]; exact hl, fun i u v e1 e2 => .inl ?_⟩
  rw [e1] at e2
  cases e2
  rw [List.getElem?_map] at e1
  obtain ⟨z, _, rfl⟩ := Option.map_eq_some_iff.mp e1
  exact ⟨rfl, rfl⟩
theorem eqv_dV : ∀ zs : List Str, PyData.eqvAll ((zs.map V.str).map dV) ((zs.map V.str).map dV) = true
  | [] => by
    show PyData.eqvAll [] [] = true
    simp only [PyData.eqvAll]
  | x :: r => by
    show PyData.eqvAll (dV (V.str x) :: (r.map V.str).map dV) (dV (V.str x) :: (r.map V.str).map dV) = true
    have e : PyData.eqv (dV (V.str x)) (dV (V.str x)) = true := by
      simp [dV, PyData.eqv]
    simp only [PyData.eqvAll, e, eqv_dV r, Bool.and_true]
theorem ne_strs {K : PySem.W.Frag} {H : Hp} {p e : Addr} {zs : List Str} {Q : VK} (hp : H p = some (.lst (zs.map V.str))) (he : H e = some (.lst (zs.map V.str))) (hf : ∀ x ∈ zs, flS (.str x) = true) (q : Q (.bl false) H) : rNeD K (.ref p) (.ref e) H Q := by
  have hf' : ∀ x ∈ zs.map V.str, flS x = true := fun v hv => by
    obtain ⟨x, hx, rfl⟩ := List.mem_map.mp hv
    exact hf x hx
  refine ⟨.list ((zs.map V.str).map dV), .list ((zs.map V.str).map dV), .lst (SqL.of hp) (dp_flats _ hf'), .lst (SqL.of he) (dp_flats _ hf'), flat_shaped hf', flat_shaped hf', ?_⟩
  have e : PyData.eqv (.list ((zs.map V.str).map dV)) (.list ((zs.map V.str).map dV)) = true := by
    simp only [PyData.eqv, eqv_dV]
  rw [e]
  exact q
/-- what isinstance asks of Office -/
structure OC (K : PySem.W.Frag) (a : Ad) : Prop where
  ha : PySem.W.findIn K (.ref a.C) "__class__" = some (some (.builtin "object.__class__"))
  hn : PySem.W.specialIn K (.builtin "object.__class__") "__get__" = some (some (.builtin "getset_descriptor.__get__"))
  ht : PySem.W.takesIn K (.builtin "object.__class__") = some true
  hm : PySem.W.mroIn K a.C (.type "object") = some true
  me : PySem.W.kitOne K (.ref a.C) (.ref a.C) = some true
  xo : PySem.W.exmOne K (.ref a.NoOffice) (.ref a.NoOffice) = some true
section
variable {P : Program} {w : World} {K : PySem.W.Frag} {mg : Str → Option Value} {base : Heap} {ad : Ad} {fd : Fd}
/-- behind one deed, told by the office first, then by the law -/
structure Step1 (ad : Ad) (K : PySem.W.Frag) (H H' : Hp) (s sc : Addr) (ns : List Int) (F F' : Fp) (A A' : La) (o' : Of) (M' : Lm) : Prop where
  O : Off ad H' F' o'
  W : Wf o'
  L : Lw H' A' M'
  R : Rel o' M'
  dj : ∀ c ∈ F'.foot, c ∉ A'.foot
  S : Scr K H' s sc ns (F'.foot ++ A'.foot)
  eF : F'.p = F.p
  eM : A'.m = A.m
theorem step1 {H2 H3 H4 : Hp} {s sc : Addr} {ns : List Int} {F F' : Fp} {A A' : La} {o o' : Of} {M M' : Lm} {Dd : Deed} {x x' : Out} {w8 w9 : V}
    (O2 : Off ad H2 F o) (W : Wf o) (L2 : Lw H2 A M) (R : Rel o M) (dj : ∀ c ∈ F.foot, c ∉ A.foot) (S2 : Scr K H2 s sc ns (F.foot ++ A.foot))
    (sto : StepO o Dd x' o') (B : Beh ad H2 H3 F F' o') (out9 : OutAt H3 w9 x') (new9 : OutNew H2 F'.foot w9)
    (st : StepM M Dd x M') (LB : LBeh H3 H4 A A' M') (out8 : OutAt H4 w8 x) : SmD H4 2 w9 w8 ∧ Step1 ad K H2 H4 s sc ns F F' A A' o' M' := by
  obtain ⟨ex, R', W'⟩ := rel_step R W rfl st sto
  subst ex
  have dj3 : ∀ c ∈ F'.foot, c ∉ A.foot := fun c h1 h2 => (B.ff c h1).elim (fun h => dj c h h2) fun e => by
    obtain ⟨u, e'⟩ := L2.has c h2
    rw [e] at e'
    cases e'
  have O3 := B.of
  have L3 : Lw H3 A M := L2.stay fun c hc u e => B.kp c u e (fun z => dj c z hc)
  have S3 : Scr K H3 s sc ns (F'.foot ++ A.foot) := S2.go B.kp (fun c hc => .inl (List.mem_append_left _ hc)) fun c hc => (List.mem_append.mp hc).elim (fun h => (B.ff c h).elim (fun h => .inl (List.mem_append_left _ h)) .inr) fun h => .inl (List.mem_append_right _ h)
  have O4 : Off ad H4 F' o' := O3.stay fun c hc u e => LB.kp c u e (dj3 c hc)
  have dj4 : ∀ c ∈ F'.foot, c ∉ A'.foot := fun c h1 h2 => (LB.ff c h2).elim (dj3 c h1) fun e => by
    obtain ⟨u, e'⟩ := O3.has c h1
    rw [e] at e'
    cases e'
  have S4 : Scr K H4 s sc ns (F'.foot ++ A'.foot) := S3.go LB.kp (fun c hc => .inl (List.mem_append_right _ hc)) fun c hc => (List.mem_append.mp hc).elim (fun h => .inl (List.mem_append_left _ h)) fun h => (LB.ff c h).elim (fun h => .inl (List.mem_append_right _ h)) .inr
  have out9' : OutAt H4 w9 x := out9.mono fun r u e h => LB.kp r u h fun z => by
    obtain ⟨u', e'⟩ := L2.has r z
    rw [(new9 r e).1] at e'
    cases e'
  exact ⟨smd_out out9' out8 (st.le (R.wfM W)), O4, W', LB.lw, R', dj4, S4, B.pp, LB.mm⟩
theorem Step1.same {H H' H'' : Hp} {s sc : Addr} {ns : List Int} {F F' : Fp} {A A' : La} {o' : Of} {M' : Lm} (h : Step1 ad K H H' s sc ns F F' A A' o' M') (sm : Same H' H'') : Step1 ad K H H'' s sc ns F F' A A' o' M' :=
  ⟨h.O.stay fun c _ u e => sm c u e, h.W, h.L.stay fun c _ u e => sm c u e, h.R, h.dj, h.S.go (Keep.same (F := []) sm) (by simp) fun c hc => .inl hc, h.eF, h.eM⟩
end
section
variable {P : Program} {w : World} {K : PySem.W.Frag} {mg : Str → Option Value} {base : Heap} {a : Ad} {fd : Fd}
theorem StepO.tp {o o' : Of} {D : Deed} {x : Out} (h : StepO o D x o') : o'.top = o.top := by
  cases h with
  | report _ _ _ => exact (lets_top _ _).1
  | back _ _ _ => exact (lets_top _ _).1
  | settle _ _ _ _ _ => exact (lets_top _ _).1
  | _ => rfl
theorem RunO.tp {o o' : Of} {xs as : List Str} (h : RunO o xs as o') : o'.top = o.top := by
  induction h with
  | nil => rfl
  | bad _ _ ih => exact ih
  | step _ _ st ih => rw [st.tp, ih]
theorem Scr.draw {H H' : Hp} {s sc : Addr} {ns : List Int} {G : List Addr} (S : Scr K H s sc ns G) (D : Drw K H' s sc ns) : Scr K H' s sc ns G := ⟨D, S.s, S.c⟩
def spLaw (K : PySem.W.Frag) : Sp := fun vs H Q _ => ∃ (a : Addr) (ns : List Int), vs = [.ref a] ∧ SqL K H a (ns.map V.int) ∧ ns.length ≤ 63 ∧ ∀ H', Q (.bl true) H'
theorem ok_law (T : Txt K mg a fd) (KN : ∀ i, i < 9 → Kn K a (nine a i) i) (ND : NumD K w a.NUMBERS) (XM : XM9 K a) (OK : OC K a) : FnOk P w K mg base CX0 9 a.law fd.law ["_law_script"] (spLaw K) := by
  have G_l_start := ok_l_start (P := P) (w := w) (base := base) T
  have G_l_drawn := ok_l_drawn (P := P) (w := w) (base := base) T
  have G_l_office := ok_l_office (P := P) (w := w) (base := base) T
  have G_l_deed := ok_l_deed (P := P) (w := w) (base := base) T
  have G_l_odd := ok_l_odd (P := P) (w := w) (base := base) T
  have G_l_text := ok_l_text (P := P) (w := w) (base := base) T
  have G_l_answer := ok_l_answer (P := P) (w := w) (base := base) T
  have G_played := ok_played (P := P) (w := w) (base := base) T ND XM
  have G_l_same := ok_l_same (P := P) (w := w) (base := base) T 3
  have G_l_is := ok_l_is (P := P) (w := w) (base := base) T
  have G_state_of := ok_state_of (P := P) (w := w) (base := base) T
  have G_l_state := ok_l_state (P := P) (w := w) (base := base) T
  have G_l_due := ok_l_due (P := P) (w := w) (base := base) T
  have G_l_told := ok_l_told (P := P) (w := w) (base := base) T KN
  have G_l_no_office := ok_l_no_office (P := P) (w := w) (base := base) T ND XM OK.xo
  refine T.F_law.ok sc_law (fun vs H Q E h => ?_) (fun cdv A0 outer s0 H vs Q E hr h => ?_)
  · obtain ⟨sa, ns, rfl, _⟩ := h
    rfl
  · obtain ⟨sa, ns, rfl, S0, hns, k⟩ := h
    have hu := hu_of hr
    refine ⟨_, (pss_cons (ps_set (i := 1) sc_law.nd rfl (Or.inl rfl) (pe_call G_l_start (hr.mono (by decide)) (by rfl) T.g_l_start T.F_l_start.kp T.b_l_start .nil pass0 (pa_cons (pv 0) pa_nil)))
    (pss_cons (ps_set (i := 2) sc_law.nd rfl (Or.inl rfl) (pe_ix ix_list (pe_lst (pa_cons pe_int (pa_cons pe_int (pa_cons (pe_op op_add pe_int (pe_call G_l_drawn (hr.mono (by decide)) (by rfl) T.g_l_drawn T.F_l_drawn.kp T.b_l_drawn .nil pass0 (pa_cons (pv 1) (pa_cons pe_int pa_nil)))) pa_nil)))) (pe_call G_l_drawn (hr.mono (by decide)) (by rfl) T.g_l_drawn T.F_l_drawn.kp T.b_l_drawn .nil pass0 (pa_cons (pv 1) (pa_cons pe_int pa_nil))) (fun _ _ => rfl)))
    (pss_cons (ps_set (i := 3) sc_law.nd rfl (Or.inl rfl) (pe_op op_add pe_int (pe_call G_l_drawn (hr.mono (by decide)) (by rfl) T.g_l_drawn T.F_l_drawn.kp T.b_l_drawn .nil pass0 (pa_cons (pv 1) (pa_cons pe_int pa_nil)))))
    (pss_cons (ps_set (i := 4) sc_law.nd rfl (Or.inl rfl) (pe_call G_l_office (hr.mono (by decide)) (by rfl) T.g_l_office T.F_l_office.kp T.b_l_office .nil pass0 (pa_cons (pv 2) (pa_cons (pv 3) pa_nil))))
    (pss_cons (ps_set (i := 5) sc_law.nd rfl (Or.inl rfl) (pe_lst pa_nil))
    (pss_cons (ps_set (i := 6) sc_law.nd rfl (Or.inl rfl) (pe_lst pa_nil))
    (pss_cons (ps_for PassesOwn.never rfl (pi_range1 (by rfl) T.n_range (pa_cons (pe_call G_l_drawn (hr.mono (by decide)) (by rfl) T.g_l_drawn T.F_l_drawn.kp T.b_l_drawn .nil pass0 (pa_cons (pv 1) (pa_cons (pe_ix ix_list (pe_lst (pa_cons pe_int (pa_cons pe_int (pa_cons pe_int (pa_cons pe_int pa_nil))))) (pe_call G_l_drawn (hr.mono (by decide)) (by rfl) T.g_l_drawn T.F_l_drawn.kp T.b_l_drawn .nil pass0 (pa_cons (pv 1) (pa_cons pe_int pa_nil))) (fun _ _ => rfl)) pa_nil))) pa_nil)) (pg_name (i := 7) sc_law.nd rfl (Or.inl rfl))
      (pss_cons (ps_set (i := 8) sc_law.nd rfl (Or.inl rfl) (pe_call G_l_deed (hr.mono (by decide)) (by rfl) T.g_l_deed T.F_l_deed.kp T.b_l_deed .nil pass0 (pa_cons (pv 1) (pa_cons (pv 4) (pa_cons pe_int pa_nil)))))
    (pss_cons (ps_if (pt_cmpR op_eq (pe_call G_l_drawn (hr.mono (by decide)) (by rfl) T.g_l_drawn T.F_l_drawn.kp T.b_l_drawn .nil pass0 (pa_cons (pv 1) (pa_cons pe_int pa_nil))) pe_int (nomark _)) (pss_one (ps_set (i := 8) sc_law.nd rfl (Or.inl rfl) (pe_call G_l_odd (hr.mono (by decide)) (by rfl) T.g_l_odd T.F_l_odd.kp T.b_l_odd .nil pass0 (pa_cons (pv 1) (pa_cons (pv 4) (pa_cons (pv 8) pa_nil)))))) pss_nil)
    (pss_cons (ps_expr (pe_bm PySem.F.plainAttrs_list PySem.F.slot_list_append PySem.F.type_list_append mt_append (pv 5) (pa_cons (pe_call G_l_text (hr.mono (by decide)) (by rfl) T.g_l_text T.F_l_text.kp T.b_l_text .nil pass0 (pa_cons (pv 8) pa_nil)) pa_nil)))
    (pss_one (ps_expr (pe_bm PySem.F.plainAttrs_list PySem.F.slot_list_append PySem.F.type_list_append mt_append (pv 6) (pa_cons (pe_call G_l_answer (hr.mono (by decide)) (by rfl) T.g_l_answer T.F_l_answer.kp T.b_l_answer .nil pass0 (pa_cons (pv 4) (pa_cons (pv 8) pa_nil))) pa_nil))))))))
    (pss_cons (ps_set (i := 9) sc_law.nd rfl (Or.inl rfl) (pe_callTy call_list_of (by rfl) T.n_list (by decide +kernel) (pa_cons (pv 5) pa_nil)))
    (pss_cons (ps_set (i := 10) sc_law.nd rfl (Or.inl rfl) (pe_call G_played (hr.mono (by decide)) (by rfl) T.g_played T.F_played.kp T.b_played .nil passL (pa_cons (pv 2) (pa_cons (pv 3) (pa_cons (pv 9) pa_nil)))))
    (pss_cons (ps_if (PW.pt (pw_or (pt_not (pt_val (pe_callB call_isi (by rfl) T.n_isinstance (by decide +kernel) (pa_cons (pv 10) (pa_cons (pe_bltn (v := .ty "tuple") (by rfl) T.n_tuple (by decide +kernel) rfl) pa_nil))))) (pw_or (pt_cmpR op_ne (pe_callB call_len_seq (by rfl) T.n_len PySem.boot_len (pa_cons (pv 10) pa_nil)) pe_int (nomark _)) (pw_or (pt_not (pt_val (pe_call G_l_same (hr.mono (by decide)) (by rfl) T.g_l_same T.F_l_same.kp T.b_l_same .nil pass0 (pa_cons (pe_ix ix_tup (pv 10) pe_int (fun _ _ => rfl)) (pa_cons (pv 6) pa_nil))))) (pw_or1 (pt_cmpR (op_neD hr.units) (pv 9) (pv 5) (nomark _))))))) (pss_one (ps_ret pe_bl)) pss_nil)
    (pss_cons (ps_if (PW.pt (pw_or (pt_not (pt_val (pe_callB call_isi (by rfl) T.n_isinstance (by decide +kernel) (pa_cons (pe_ix ix_tup (pv 10) pe_int (fun _ _ => rfl)) (pa_cons (pe_glob (v := .ref a.C) (by rfl) T.g_Office rfl) pa_nil))))) (pw_or1 (pt_not (pt_val (pe_call G_l_is (hr.mono (by decide)) (by rfl) T.g_l_is T.F_l_is.kp T.b_l_is .nil pass0 (pa_cons (pe_ix ix_tup (pv 10) pe_int (fun _ _ => rfl)) (pa_cons (pv 4) pa_nil)))))))) (pss_one (ps_ret pe_bl)) pss_nil)
    (pss_cons (ps_for PassesOwn.never rfl (pi_range2 (by rfl) T.n_range (pa_cons pe_int (pa_cons (pe_op op_add (pv 2) pe_int) pa_nil))) (pg_name (i := 11) sc_law.nd rfl (Or.inl rfl))
      (pss_one (ps_if (pt_not (pt_val (pe_call G_l_same (hr.mono (by decide)) (by rfl) T.g_l_same T.F_l_same.kp T.b_l_same .nil pass0 (pa_cons (pe_call G_state_of (hr.mono (by decide)) (by rfl) T.g_state_of T.F_state_of.kp T.b_state_of .nil passL (pa_cons (pe_ix ix_tup (pv 10) pe_int (fun _ _ => rfl)) (pa_cons (pv 11) pa_nil))) (pa_cons (pe_call G_l_state (hr.mono (by decide)) (by rfl) T.g_l_state T.F_l_state.kp T.b_l_state .nil pass0 (pa_cons (pv 4) (pa_cons (pv 11) pa_nil))) pa_nil))))) (pss_one (ps_ret pe_bl)) pss_nil)))
    (pss_cons (ps_set (i := 8) sc_law.nd rfl (Or.inl rfl) (pe_call G_l_deed (hr.mono (by decide)) (by rfl) T.g_l_deed T.F_l_deed.kp T.b_l_deed .nil pass0 (pa_cons (pv 1) (pa_cons (pv 4) (pa_cons pe_int pa_nil)))))
    (pss_cons (ps_if (pt_not (pt_val (pe_call G_l_same (hr.mono (by decide)) (by rfl) T.g_l_same T.F_l_same.kp T.b_l_same .nil pass0 (pa_cons (pe_call G_l_told (hr.mono (by decide)) (by rfl) T.g_l_told T.F_l_told.kp T.b_l_told .nil pass0 (pa_cons (pe_ix ix_tup (pv 10) pe_int (fun _ _ => rfl)) (pa_cons (pv 8) pa_nil))) (pa_cons (pe_call G_l_due (hr.mono (by decide)) (by rfl) T.g_l_due T.F_l_due.kp T.b_l_due .nil pass0 (pa_cons (pv 4) (pa_cons (pv 8) pa_nil))) pa_nil))))) (pss_one (ps_ret pe_bl)) pss_nil)
    (pss_one (ps_ret (pe_and (pe_call G_l_no_office (hr.mono (by decide)) (by rfl) T.g_l_no_office T.F_l_no_office.kp T.b_l_no_office .nil pass0 (pa_cons pe_int (pa_cons (pv 3) pa_nil))) (pe_one (pe_call G_l_no_office (hr.mono (by decide)) (by rfl) T.g_l_no_office T.F_l_no_office.kp T.b_l_no_office .nil pass0 (pa_cons (pv 2) (pa_cons pe_int pa_nil))))))))))))))))))))), ?_⟩
    try dsimp only
    refine seq_go ?_
    refine ⟨_, rfl, sa, ns, rfl, S0, fun s H1 ns0 sm1 D1 => ?_⟩
    refine gName_go ?_
    try dsimp only
    refine seq_go ?_
    -- top
    refine ⟨_, rfl, s, sa, ns, 400, rfl, D1, by decide, by decide, fun v1 H2 v10 v11 k2 D2 => ?_⟩
    refine ⟨_, _, rfl, rfl, ?_⟩
    refine ⟨(by show 3 ≤ sizeLine; decide), fun l3 n3 => ?_⟩
    have D3 := D2.new (o := .lst [V.int 20, V.int 60, V.int (1 + v1)]) n3
    refine ⟨_, rfl, s, sa, ns, 3, rfl, D3, by decide, by decide, fun v2 H4 v20 v21 k4 D4 => ?_⟩
    obtain ⟨top, htop, t1, t2⟩ : ∃ t : Nat, (if v2 = 0 then V.int 20 else if v2 = 1 then V.int 60 else V.int (1 + v1)) = V.int (t : Int) ∧ 1 ≤ t ∧ t ≤ 400 := by
      by_cases c : v2 = 0
      · exact ⟨20, if_pos c, by decide, by decide⟩
      · by_cases c2 : v2 = 1
        · exact ⟨60, by rw [if_neg c, if_pos c2]; rfl, by decide, by decide⟩
        · exact ⟨(1 + v1).toNat, by rw [if_neg c, if_neg c2]; congr 1; omega, by omega, by omega⟩
    refine ⟨l3, _, v2, _, rfl, rfl, SqL.of (k4 _ _ upd_same (D2.ns n3)), (at_three v20 v21 _ _ _).trans (congrArg some htop), ?_⟩
    refine gName_go ?_
    try dsimp only
    refine seq_go ?_
    -- desks
    refine ⟨_, rfl, s, sa, ns, 6, rfl, D4, by decide, by decide, fun v3 H5 v30 v31 k5 D5 => ?_⟩
    refine ⟨_, _, rfl, rfl, ?_⟩
    obtain ⟨dn, hdn⟩ := Int.eq_ofNat_of_zero_le (show 0 ≤ 1 + v3 by omega)
    try dsimp only
    rw [hdn]
    refine gName_go ?_
    try dsimp only
    refine seq_go ?_
    have dn1 : 1 ≤ dn := by omega
    have dn6 : dn ≤ 6 := by omega
    -- the law's office
    refine ⟨_, rfl, _, rfl, top, dn, rfl, by omega, fun A H7 sm7 newA L7 => ?_⟩
    have D7 := D5.same sm7
    have S7 : Scr K H7 s sa ns A.foot := by
      refine Scr.go (G := []) (W := []) ⟨D5, by simp, .inr (by simp)⟩ (Keep.same (F := []) sm7) (by simp) fun c hc => .inr (newA c hc)
    refine gName_go ?_
    try dsimp only
    refine seq_go ?_
    refine ⟨Nat.zero_le _, fun b nb => ?_⟩
    refine gName_go ?_
    try dsimp only
    refine seq_go ?_
    refine ⟨Nat.zero_le _, fun du ndu => ?_⟩
    refine gName_go ?_
    try dsimp only
    refine seq_go ?_
    have bd : b ≠ du := fun z => by rw [← z, upd_same] at ndu; cases ndu
    have s9 : Same H7 (upd (upd H7 b (.lst [])) du (.lst [])) := (same_upd nb).trans (same_upd ndu)
    have ndu7 : H7 du = none := (same_upd nb).free ndu
    have bA : b ∉ A.foot := fun z => by
      obtain ⟨u, e⟩ := L7.has b z
      rw [nb] at e
      cases e
    have dA : du ∉ A.foot := fun z => by
      obtain ⟨u, e⟩ := L7.has du z
      rw [ndu7] at e
      cases e
    have S9 : Scr K (upd (upd H7 b (.lst [])) du (.lst [])) s sa ns (A.foot ++ [b, du]) := by
      refine S7.go (W := []) (Keep.same (F := []) s9) (by simp) fun c hc => ?_
      rcases List.mem_append.mp hc with h | h
      · exact .inl h
      · rcases List.mem_cons.mp h with rfl | h
        · exact .inr nb
        · rw [List.mem_singleton.mp h]
          exact .inr ndu7
    have hb9 : (upd (upd H7 b (.lst [])) du (.lst [])) b = some (.lst (([] : List Str).map V.str)) := by rw [upd_ne bd]; exact upd_same
    have hd9 : (upd (upd H7 b (.lst [])) du (.lst [])) du = some (.lst (([] : List Str).map V.str)) := upd_same
    have L9 : Lw (upd (upd H7 b (.lst [])) du (.lst [])) A (Lm.new top dn) := L7.stay fun c _ u e => s9 c u e
    generalize upd (upd H7 b (.lst ([] : List V))) du (.lst ([] : List V)) = H9 at s9 S9 hb9 hd9 L9 ⊢
    clear S7 D7 L7 newA nb ndu ndu7 s9
    -- how many deeds
    refine ⟨_, rfl, (by show 4 ≤ sizeLine; decide), fun l4 n4 => ?_⟩
    have SA : Scr K (upd H9 l4 (.lst [V.int 51, V.int 51, V.int 51, V.int 121])) s sa ns (A.foot ++ [b, du]) := S9.go (W := []) (Keep.same (F := []) (same_upd n4)) (by simp) fun c hc => .inl hc
    have kA : Keep [] H9 (upd H9 l4 (.lst [V.int 51, V.int 51, V.int 51, V.int 121])) := Keep.same (same_upd n4)
    have hl4 : (upd H9 l4 (.lst [V.int 51, V.int 51, V.int 51, V.int 121])) l4 = some (.lst [V.int 51, V.int 51, V.int 51, V.int 121]) := upd_same
    have l4s := S9.d.ns n4
    generalize upd H9 l4 (.lst [V.int 51, V.int 51, V.int 51, V.int 121]) = HA at SA kA hl4 ⊢
    refine ⟨_, rfl, s, sa, ns, 4, rfl, SA.d, by decide, by decide, fun v4 HB v40 v41 kB DB => ?_⟩
    obtain ⟨mx, emx, m0, m1⟩ : ∃ mx : Int, atI [V.int 51, V.int 51, V.int 51, V.int 121] v4 = some (.int mx) ∧ 1 ≤ mx ∧ mx ≤ 121 := by
      have : v4 = 0 ∨ v4 = 1 ∨ v4 = 2 ∨ v4 = 3 := by omega
      rcases this with rfl | rfl | rfl | rfl
      · exact ⟨51, rfl, by decide, by decide⟩
      · exact ⟨51, rfl, by decide, by decide⟩
      · exact ⟨51, rfl, by decide, by decide⟩
      · exact ⟨121, rfl, by decide, by decide⟩
    refine ⟨l4, _, v4, _, rfl, rfl, SqL.of (kB _ _ hl4 l4s), emx, ?_⟩
    refine ⟨s, sa, ns, mx, rfl, DB, m0, Nat.lt_trans (okS (by omega) (by omega)) (by decide), fun tn HC tn0 tn1 kC DC => ⟨tn, rfl, by omega, by omega, ?_⟩⟩
    have SC := (SA.draw DB).draw DC
    have nsG : ∀ c ∈ A.foot ++ [b, du], c ∉ [s] := fun c hc z => S9.s (by rw [← List.mem_singleton.mp z]; exact hc)
    have bG : b ∈ A.foot ++ [b, du] := List.mem_append_right _ List.mem_cons_self
    have dG : du ∈ A.foot ++ [b, du] := List.mem_append_right _ (List.mem_cons_of_mem _ List.mem_cons_self)
    have mvC : ∀ c u, c ∈ A.foot ++ [b, du] → H9 c = some u → HC c = some u := fun c u hc e => kC _ _ (kB _ _ (kA _ _ e (by simp)) (nsG c hc)) (nsG c hc)
    have hbC := mvC _ _ bG hb9
    have hdC := mvC _ _ dG hd9
    have LC : Lw HC A (Lm.new top dn) := L9.stay fun c hc u e => mvC c u (List.mem_append_left _ hc) e
    refine for_range (lo := 0) (n := tn.toNat) (fun j σ H' => ∃ (A' : La) (M' : Lm) (bs zs : List Str) (v7 v8 : Option V), σ = [some (.ref sa), some (.ref s), some (.int (top : Int)), some (.int (dn : Int)), some (.ref A'.m), some (.ref b), some (.ref du), v7, v8, none, none, none] ∧
        Scr K H' s sa ns (A'.foot ++ [b, du]) ∧ Lw H' A' M' ∧ H' b = some (.lst (bs.map V.str)) ∧ H' du = some (.lst (zs.map V.str)) ∧ bs.length = j ∧ RunM (Lm.new top dn) bs zs M' ∧ zs.length = j ∧ (∃ o, Rel o M' ∧ Wf o) ∧ (∀ x ∈ bs, Tx x ∧ flS (.str x) = true) ∧ b ∉ A'.foot ∧ du ∉ A'.foot)
      ⟨A, _, [], [], none, none, rfl, SC, LC, hbC, hdC, rfl, .nil, rfl, ⟨_, rel_new, wf_new t1 t2 dn1 dn6⟩, (fun x hx => by cases hx), bA, dA⟩ ?_ ?_
    · clear mvC hbC hdC LC SC nsG bG dG bA dA S9 SA hb9 hd9 L9 kA hl4 l4s
      rintro j σ HD hj ⟨A', M', bs, zs, v7, v8, rfl, S, L, hb, hd, bl, RM', zl, ⟨o, RR, WW⟩, tx, bA, dA⟩
      have hj : j < 121 := by omega
      refine gName_go ?_
      try dsimp only
      refine seq_go ?_
      have bG : b ∈ A'.foot ++ [b, du] := List.mem_append_right _ List.mem_cons_self
      have dG : du ∈ A'.foot ++ [b, du] := List.mem_append_right _ (List.mem_cons_of_mem _ List.mem_cons_self)
      have hasG : ∀ c ∈ A'.foot ++ [b, du], ∃ u, HD c = some u := fun c hc => by
        rcases List.mem_append.mp hc with h | h
        · exact L.has c h
        · rcases List.mem_cons.mp h with rfl | h
          · exact ⟨_, hb⟩
          · rw [List.mem_singleton.mp h]
            exact ⟨_, hd⟩
      have nsG : ∀ c ∈ A'.foot ++ [b, du], c ∉ [s] := fun c hc z => S.s (by rw [← List.mem_singleton.mp z]; exact hc)
      have sA' : s ∉ A'.foot := fun z => S.s (List.mem_append_left _ z)
      have WM := RR.wfM WW
      have RM := RR.rng WW
      have LMM := RR.lm WW
      refine ⟨_, rfl, _, rfl, s, sa, ns, A', M', 8, rfl, S.d, L, WM, RM, LMM.gl, (by rw [RR.ly]; exact WW.d1), (by rw [RR.tp]; exact WW.t1), by decide, by decide, sA', fun td Dd HE kE DE hok few hat => ?_⟩
      have hat := hat (A'.foot ++ [b, du]) hasG
      refine gName_go ?_
      try dsimp only
      refine seq_go ?_
      refine ifS_join (fun σ' H' => ∃ (t' : Addr) (D' : Deed), σ' = [some (.ref sa), some (.ref s), some (.int (top : Int)), some (.int (dn : Int)), some (.ref A'.m), some (.ref b), some (.ref du), some (.int (0 + (j : Int))), some (.ref t'), none, none, none] ∧ D'.Nb ∧ DeedAt H' (A'.foot ++ [b, du]) t' D' ∧ Keep [s] HD H' ∧ Drw K H' s sa ns) (fun nx hnx => ?_) ?_
      · refine ⟨_, rfl, s, sa, ns, 8, rfl, DE, by decide, by decide, fun q HF q0 q1 kF DF => ⟨rfl, _, rfl, ?_⟩⟩
        have kDF := kE.trans kF
        by_cases c : q = 7
        · rw [deqI' c]
          refine iteT ?_
          have hasF : ∀ c ∈ A'.foot ++ [b, du], ∃ u, HF c = some u := fun c hc => by
            obtain ⟨u, e⟩ := hasG c hc
            exact ⟨u, kDF _ _ e (nsG c hc)⟩
          have LF : Lw HF A' M' := L.stay fun c hc u e => kDF _ _ e (nsG c (List.mem_append_left _ hc))
          refine ⟨_, rfl, _, rfl, _, rfl, s, sa, ns, A', M', td, Dd, A'.foot ++ [b, du], rfl, DF, LF, WM, sA', few, hat.go DE kF, hasF, fun t' D' HG nb' kG DG at' => ?_⟩
          refine gName_go ?_
          exact hnx _ _ ⟨t', D', rfl, nb', at', kDF.trans kG, DG⟩
        · rw [dneI' c]
          refine iteF ?_
          refine next_go ?_
          exact hnx _ _ ⟨td, Dd, rfl, few.nb, hat.go DE kF, kDF, DF⟩
      · clear hat kE DE hok few
        rintro σ' HG ⟨t', D', rfl, nb', at', kG, DG⟩
        have SG := S.draw DG
        have LG : Lw HG A' M' := L.stay fun c hc u e => kG _ _ e (nsG c (List.mem_append_left _ hc))
        have hbG := kG _ _ hb (nsG b bG)
        have hdG := kG _ _ hd (nsG du dG)
        refine next_go ?_
        try dsimp only
        refine seq_go ?_
        refine ⟨_, rfl, .inl ⟨rfl, _, SqL.of hbG⟩, _, rfl, t', D', rfl, at'.sub (fun c hc => by cases hc), nb', fun HH sH => ?_⟩
        have bs4 : (bs.map V.str).length < sizeLine := by rw [List.length_map, sizeLine_eq]; omega
        refine ⟨b, _, _, rfl, rfl, sH _ _ hbG, bs4, ?_⟩
        have kb : Keep [b] HG (upd HH b (.lst (bs.map V.str ++ [V.str (textOf D')]))) := (Keep.same sH).trans (keep_upd (.inl (List.mem_singleton.mpr rfl)))
        have hbI : (upd HH b (.lst (bs.map V.str ++ [V.str (textOf D')]))) b = some (.lst ((bs ++ [textOf D']).map V.str)) := by rw [upd_same, List.map_append]; rfl
        generalize upd HH b (.lst (bs.map V.str ++ [V.str (textOf D')])) = HI at kb hbI ⊢
        have subG : ∀ c ∈ [b], c ∈ A'.foot ++ [b, du] := fun c hc => by rw [List.mem_singleton.mp hc]; exact bG
        have bd' : du ∉ [b] := fun z => bd (List.mem_singleton.mp z).symm
        have hdI := kb _ _ hdG bd'
        have atI' : DeedAt HI A'.foot t' D' := at'.mono (G' := A'.foot) (kb.mono subG) fun c _ n z => n (List.mem_append_left _ z)
        have LI' : Lw HI A' M' := LG.stay fun c hc u e => kb _ _ e (fun z => bA (by rw [← List.mem_singleton.mp z]; exact hc))
        have SI : Scr K HI s sa ns (A'.foot ++ [b, du]) := SG.go kb (fun c hc => .inl (subG c hc)) fun c hc => .inl hc
        refine ⟨_, rfl, .inl ⟨rfl, _, SqL.of hdI⟩, _, rfl, _, rfl, A', M', t', D', rfl, LI', WM, RM, LMM, nb', atI', fun z M2 A2 HJ an LB => ?_⟩
        have hdJ := LB.kp _ _ hdI dA
        have hbJ := LB.kp _ _ hbI bA
        have b2 : b ∉ A2.foot := fun q => (LB.ff b q).elim bA fun e => by rw [hbI] at e; cases e
        have d2 : du ∉ A2.foot := fun q => (LB.ff du q).elim dA fun e => by rw [hdI] at e; cases e
        refine ⟨du, _, _, rfl, rfl, hdJ, by rw [List.length_map, sizeLine_eq]; omega, ?_⟩
        have SJ : Scr K HJ s sa ns (A2.foot ++ [b, du]) := SI.go LB.kp (fun c hc => .inl (List.mem_append_left _ hc)) fun c hc => (List.mem_append.mp hc).elim (fun h => (LB.ff c h).imp (List.mem_append_left _) id) fun h => .inl (List.mem_append_right _ h)
        have kd : Keep [du] HJ (upd HJ du (.lst (zs.map V.str ++ [V.str z]))) := keep_upd (.inl (List.mem_singleton.mpr rfl))
        refine ⟨A2, M2, bs ++ [textOf D'], zs ++ [z], _, _, by rw [LB.mm], SJ.go kd (fun c hc => .inl (by rw [List.mem_singleton.mp hc]; exact List.mem_append_right _ (List.mem_cons_of_mem _ List.mem_cons_self))) (fun c hc => .inl hc), LB.lw.stay fun c hc u e => kd _ _ e (fun z => d2 (by rw [← List.mem_singleton.mp z]; exact hc)), kd _ _ hbJ (fun z => bd (List.mem_singleton.mp z)), by rw [upd_same, List.map_append]; rfl, by rw [List.length_append, bl]; rfl, ?_, by rw [List.length_append, zl]; rfl, ?_, fun x hx => ?_, b2, d2⟩
        · rcases an with ⟨e1, rfl, rfl⟩ | ⟨Dd, y, e1, st, rfl⟩
          · exact .bad RM' e1
          · exact .step RM' e1 st
        · rcases an with ⟨e1, rfl, rfl⟩ | ⟨Dd, y, e1, st, rfl⟩
          · exact ⟨o, RR, WW⟩
          · exact rel_next RR WW st
        · rcases List.mem_append.mp hx with h | h
          · exact tx x h
          · rw [List.mem_singleton.mp h]
            exact ⟨text_tx nb', text_asc nb'⟩
    · clear mvC hbC hdC LC SC nsG bG dG bA dA S9 SA hb9 hd9 L9 kA hl4 l4s
      rintro σ HD ⟨A', M', bs, zs, v7, v8, rfl, S, L, hb, hd, bl, RM', zl, _, tx, bA, dA⟩
      have bl121 : bs.length ≤ 121 := by omega
      try dsimp only
      refine seq_go ?_
      refine ⟨_, rfl, b, _, rfl, .inl (SqL.of hb), fun h nh => ?_⟩
      have sE : Same HD (upd HD h (.lst (bs.map V.str))) := same_upd nh
      have hh : (upd HD h (.lst (bs.map V.str))) h = some (.lst (bs.map V.str)) := upd_same
      generalize upd HD h (.lst (bs.map V.str)) = HE at sE hh ⊢
      refine gName_go ?_
      try dsimp only
      refine seq_go ?_
      refine ⟨_, rfl, _, rfl, _, rfl, (top : Int), (dn : Int), h, bs, rfl, okS (by omega) (by omega), okS (by omega) (by omega), hh, by omega, (fun x hx => (tx x hx).1), fun c => absurd (by omega) c, fun _ r la as F o' HF sF nr hr nla hla newF laF rF OF WF RO => ?_⟩
      rw [Int.toNat_natCast, Int.toNat_natCast] at RO
      obtain ⟨rfl, RR, _⟩ := run_same rel_new (wf_new t1 t2 dn1 dn6) RM' RO
      have tpo : o'.top = top := RO.tp
      have sgo : o'.sg.length = dn := by
        rw [RO.sgl]
        exact List.length_replicate
      refine gName_go ?_
      try dsimp only
      refine seq_go ?_
      have sDF := sE.trans sF
      have hbF := sDF _ _ hb
      have hdF := sDF _ _ hd
      have hhF := sF _ _ hh
      have LF : Lw HF A' M' := L.stay fun c _ u e => sDF c u e
      have zl121 : zs.length ≤ 121 := by omega
      refine ⟨_, rfl, _, _, _, _, _, rfl, .ty "tuple", .base (.tup hr), kit_ty (r := true) (by decide +kernel), _, rfl, iteF ?_⟩
      refine ⟨_, rfl, r, _, rfl, .inr (SqT.of hr), rfl, _, rfl, ?_⟩
      rw [show (!decide (V.int (([V.ref la, V.ref F.p] : List V).length : Int) = V.int 2)) = false by rw [decide_eq_true (show V.int (([V.ref la, V.ref F.p] : List V).length : Int) = V.int 2 from rfl)]; rfl]
      refine iteF ?_
      refine ⟨_, rfl, r, _, 0, _, rfl, rfl, SqT.of hr, rfl, _, rfl, .ref la, .ref du, rfl, smd_strs hla hdF (by omega), fun HG sG => ⟨_, rfl, iteF ?_⟩⟩
      refine ⟨_, rfl, _, rfl, ne_strs (sG _ _ hhF) (sG _ _ hbF) (fun x hx => (tx x hx).2) ⟨_, rfl, iteF ?_⟩⟩
      refine next_go ?_
      try dsimp only
      refine seq_go ?_
      have hrG := sG _ _ hr
      have OG : Off a HG F o' := OF.stay fun c _ u e => sG c u e
      have LG : Lw HG A' M' := LF.stay fun c _ u e => sG c u e
      refine ⟨_, rfl, r, _, 1, _, rfl, rfl, SqT.of hrG, rfl, _, _, _, _, _, rfl, .own a.C, .base (.ins OG.ob T.cl OK.ha OK.hn OK.ht OK.hm), OK.me, _, rfl, iteF ?_⟩
      refine ⟨_, rfl, r, _, 1, _, rfl, rfl, SqT.of hrG, rfl, _, rfl, F, o', A', M', rfl, OG, WF, LG, RR.toI WF, fun HH sH => ⟨_, rfl, iteF ?_⟩⟩
      refine next_go ?_
      try dsimp only
      refine seq_go ?_
      have hrH := sH _ _ hrG
      have OH : Off a HH F o' := OG.stay fun c _ u e => sH c u e
      have LH : Lw HH A' M' := LG.stay fun c _ u e => sH c u e
      -- states
      refine ⟨_, rfl, _, _, rfl, rfl, ?_⟩
      refine ⟨1, (top : Int) + 1, rfl, ⟨by omega, by omega, by omega, by omega⟩, ?_⟩
      refine for_range (lo := 1) (n := ((top : Int) + 1 - 1).toNat) (fun j σ' H' => ∃ (v11 : Option V), σ' = [some (.ref sa), some (.ref s), some (.int (top : Int)), some (.int (dn : Int)), some (.ref A'.m), some (.ref b), some (.ref du), v7, v8, some (.ref h), some (.ref r), v11] ∧ Same HH H')
        ⟨_, rfl, Same.refl _⟩ ?_ ?_
      · rintro j σ' H2' hj ⟨v6', rfl, s2⟩
        have O2 : Off a H2' F o' := OH.stay fun c _ u e => s2 c u e
        have L2 : Lw H2' A' M' := LH.stay fun c _ u e => s2 c u e
        refine gName_go ?_
        refine ⟨_, rfl, r, _, 1, _, rfl, rfl, SqT.of (s2 _ _ hrH), rfl, _, rfl, F, o', 1 + (j : Int), rfl, O2, intOkS (by omega) (by omega), fun c => absurd (by omega) c, fun _ => ?_⟩
        refine ⟨_, rfl, _, rfl, A', M', o', 1 + (j : Int), rfl, L2, RR, WF, by omega, by omega, fun H3' s3 => ?_⟩
        refine ⟨_, _, rfl, .inl ⟨rfl, rfl⟩, fun H4' s4 => ⟨_, rfl, iteF ?_⟩⟩
        exact ⟨_, rfl, (s2.trans s3).trans s4⟩
      · rintro σ' HI ⟨v11, rfl, sI⟩
        try dsimp only
        refine seq_go ?_
        have OI : Off a HI F o' := OH.stay fun c _ u e => sI c u e
        have LI' : Lw HI A' M' := LH.stay fun c _ u e => sI c u e
        have hrI := sI _ _ hrH
        have sFI := (sG.trans sH).trans sI
        have sEI := sF.trans sFI
        have SE : Scr K HE s sa ns (A'.foot ++ [b, du]) := S.go (W := []) (Keep.same (F := []) sE) (by simp) fun c hc => .inl hc
        have SI : Scr K HI s sa ns (F.foot ++ A'.foot) := SE.go (W := []) (Keep.same (F := []) sEI) (by simp) fun c hc => (List.mem_append.mp hc).elim (fun h => .inr (newF c h)) fun h => .inl (List.mem_append_left _ h)
        have dj : ∀ c ∈ F.foot, c ∉ A'.foot := fun c h1 h2 => by
          obtain ⟨u, e⟩ := L.has c h2
          have := sE _ _ e
          rw [newF c h1] at this
          cases this
        have WM := RR.wfM WF
        have RM := RR.rng WF
        have LMM := RR.lm WF
        refine ⟨_, rfl, _, rfl, s, sa, ns, A', M', 8, rfl, SI.d, LI', WM, RM, LMM.gl, (by rw [RR.ly]; exact WF.d1), (by rw [RR.tp]; exact WF.t1), by decide, by decide, fun z => SI.s (List.mem_append_right _ z), fun td Dd H4' kd4 Dd4 hok hfew hat => ?_⟩
        have hat := hat (F.foot ++ A'.foot) fun c hc => (List.mem_append.mp hc).elim (OI.has c) (LI'.has c)
        have nsG : ∀ c ∈ F.foot ++ A'.foot, c ∉ [s] := fun c hc z => SI.s (by rw [← List.mem_singleton.mp z]; exact hc)
        have O4 : Off a H4' F o' := OI.stay fun c hc u e => kd4 c u e (nsG c (List.mem_append_left _ hc))
        have L4 : Lw H4' A' M' := LI'.stay fun c hc u e => kd4 c u e (nsG c (List.mem_append_right _ hc))
        have S4 : Scr K H4' s sa ns (F.foot ++ A'.foot) := ⟨Dd4, SI.s, SI.c⟩
        have hr4 := kd4 _ _ hrI (SI.d.nt hrI)
        refine gName_go ?_
        try dsimp only
        refine seq_go ?_
        refine ⟨_, rfl, r, _, 1, _, rfl, rfl, SqT.of hr4, rfl, _, rfl, F, o', td, Dd, rfl, O4, WF, hok, hat.sub (fun c hc => List.mem_append_left _ hc), fun x' o2 F' H5' w9 sto B out9 new9 => ?_⟩
        have hat5 : DeedAt H5' A'.foot td Dd := hat.mono (G' := A'.foot) (B.kp.mono fun c hc => List.mem_append_left _ hc) fun c _ n z => n (List.mem_append_right _ z)
        have L5 : Lw H5' A' M' := L4.stay fun c hc u e => B.kp c u e (fun z => dj c z hc)
        refine ⟨_, rfl, _, rfl, A', M', td, Dd, rfl, L5, WM, RM, LMM, hok, hat5, fun x M2 A2 H6' w8 st LB out8 new8 => ?_⟩
        obtain ⟨sm, Z⟩ := step1 O4 WF L4 RR dj S4 sto B out9 new9 st LB out8
        refine ⟨w9, w8, rfl, smd_up sm, fun H7' s7 => ⟨_, rfl, iteF ?_⟩⟩
        refine next_go ?_
        try dsimp only
        refine ⟨_, rfl, 0, (dn : Int), rfl, by decide, okS (by omega) (by omega), by omega, fun H8' s8 => ⟨_, rfl, iteT ?_⟩⟩
        refine ⟨_, rfl, (top : Int), 7, rfl, okS (by omega) (by omega), by decide, by omega, fun H9' _ => k H9'⟩
end
end Nu
namespace Nu
open PySem PySem.Spec PyProof.Rows L2
def numEs (h1 h2 h3 h4 h5 : Int) (t1 t2 t3 t4 t5 u1 u2 u3 u4 u5 : Tok) : List DictEntry := [⟨h1, .str "lend" t1, .int 2 u1⟩, ⟨h2, .str "back" t2, .int 1 u2⟩, ⟨h3, .str "stop" t3, .int 1 u3⟩, ⟨h4, .str "found" t4, .int 1 u4⟩, ⟨h5, .str "settle" t5, .int 2 u5⟩]
theorem beqT {x y : Str} (h : x = y) : (y == x) = true := beq_iff_eq.mpr h.symm
theorem beqF {x y : Str} (h : ¬ x = y) : (y == x) = false := beq_eq_false_iff_ne.mpr fun z => h z.symm
theorem numD_of {K : PySem.W.Frag} {w : World} {d : Addr} {h1 h2 h3 h4 h5 : Int} {t1 t2 t3 t4 t5 u1 u2 u3 u4 u5 : Tok} {n : Nat}
    (hl : K.lookup d = some ⟨.type "dict", none, .dict #[⟨h1, .str "lend" t1, .int 2 u1⟩, ⟨h2, .str "back" t2, .int 1 u2⟩, ⟨h3, .str "stop" t3, .int 1 u3⟩, ⟨h4, .str "found" t4, .int 1 u4⟩, ⟨h5, .str "settle" t5, .int 2 u5⟩] n, #[]⟩)
    (hk : PySem.W.KeysLit w.params [⟨h1, .str "lend" t1, .int 2 u1⟩, ⟨h2, .str "back" t2, .int 1 u2⟩, ⟨h3, .str "stop" t3, .int 1 u3⟩, ⟨h4, .str "found" t4, .int 1 u4⟩, ⟨h5, .str "settle" t5, .int 2 u5⟩]) (lo : (d == sysModules) = false) : NumD K w d := by
  refine ⟨_, _, ⟨hl, hk, lo⟩, fun x => ?_⟩
  unfold PySem.W.nsIn
  rw [hl]
  dsimp only
  unfold sizeOf
  by_cases c1 : x = "lend"
  · refine ⟨some (.int 2 u1), ?_, ?_⟩
    · rw [List.find?_cons_of_pos (by show (("lend" : Str) == x) = true; exact beqT c1)]
    · rw [if_pos c1]
      exact ⟨_, rfl⟩
  rw [List.find?_cons_of_neg (by show ¬ (("lend" : Str) == x) = true; rw [beqF c1]; exact Bool.false_ne_true), if_neg c1]
  by_cases c2 : x = "back"
  · refine ⟨some (.int 1 u2), ?_, ?_⟩
    · rw [List.find?_cons_of_pos (by show (("back" : Str) == x) = true; exact beqT c2)]
    · rw [if_pos c2]
      exact ⟨_, rfl⟩
  rw [List.find?_cons_of_neg (by show ¬ (("back" : Str) == x) = true; rw [beqF c2]; exact Bool.false_ne_true), if_neg c2]
  by_cases c3 : x = "stop"
  · refine ⟨some (.int 1 u3), ?_, ?_⟩
    · rw [List.find?_cons_of_pos (by show (("stop" : Str) == x) = true; exact beqT c3)]
    · rw [if_pos c3]
      exact ⟨_, rfl⟩
  rw [List.find?_cons_of_neg (by show ¬ (("stop" : Str) == x) = true; rw [beqF c3]; exact Bool.false_ne_true), if_neg c3]
  by_cases c4 : x = "found"
  · refine ⟨some (.int 1 u4), ?_, ?_⟩
    · rw [List.find?_cons_of_pos (by show (("found" : Str) == x) = true; exact beqT c4)]
    · rw [if_pos c4]
      exact ⟨_, rfl⟩
  rw [List.find?_cons_of_neg (by show ¬ (("found" : Str) == x) = true; rw [beqF c4]; exact Bool.false_ne_true), if_neg c4]
  by_cases c5 : x = "settle"
  · refine ⟨some (.int 2 u5), ?_, ?_⟩
    · rw [List.find?_cons_of_pos (by show (("settle" : Str) == x) = true; exact beqT c5)]
    · rw [if_pos c5]
      exact ⟨_, rfl⟩
  rw [List.find?_cons_of_neg (by show ¬ (("settle" : Str) == x) = true; rw [beqF c5]; exact Bool.false_ne_true), if_neg c5]
  refine ⟨none, ?_, rfl⟩
  rw [List.find?_nil]
  rfl
theorem lt9' {p : Nat → Prop} (h0 : p 0) (h1 : p 1) (h2 : p 2) (h3 : p 3) (h4 : p 4) (h5 : p 5) (h6 : p 6) (h7 : p 7) (h8 : p 8) : ∀ j, j < 9 → p j := fun j hj => by
  match j, hj with
  | 0, _ => exact h0
  | 1, _ => exact h1
  | 2, _ => exact h2
  | 3, _ => exact h3
  | 4, _ => exact h4
  | 5, _ => exact h5
  | 6, _ => exact h6
  | 7, _ => exact h7
  | 8, _ => exact h8
  | j + 9, hj => omega
end Nu
namespace Nu
open PySem PySem.Spec PyProof.Rows L2
theorem lt9 {p : Nat → Prop} (h0 : p 0) (h1 : p 1) (h2 : p 2) (h3 : p 3) (h4 : p 4) (h5 : p 5) (h6 : p 6) (h7 : p 7) (h8 : p 8) : ∀ j, j < 9 → p j := fun j hj => by
  match j, hj with
  | 0, _ => exact h0
  | 1, _ => exact h1
  | 2, _ => exact h2
  | 3, _ => exact h3
  | 4, _ => exact h4
  | 5, _ => exact h5
  | 6, _ => exact h6
  | 7, _ => exact h7
  | 8, _ => exact h8
  | j + 9, hj => omega
theorem all_mk {l : PySem.W.OpenLaw} {w : World} {K : PySem.W.Frag} {h : Heap} {mg : Str → Option Value} {fa : Addr} (X : K.In h) (G : h.Ns mainGlobals mg) (hfa : mg "law" = some (.ref fa))
    {x_NUMBERS : Addr} {nh1 nh2 nh3 nh4 nh5 : Int} {nt1 nt2 nt3 nt4 nt5 nu1 nu2 nu3 nu4 nu5 : Tok} {nn : Nat}
    {C x_GapError x_NoOffice x_NoDesk x_Stopped x_NoRoom x_NoCount x_NoWord x_Short x_NoNumber x_Twice x_NotThere x_NoWorld x_NoBox : Addr}
    {f_Office_init : Addr} {od_Office_init an_Office_init : Option Addr} {sl_Office_init : Array (Option Value)} {oc_Office_init kV_Office_init dc_Office_init pm_Office_init cd_Office_init ct_Office_init : Value}
    {f_Office_lend : Addr} {od_Office_lend an_Office_lend : Option Addr} {sl_Office_lend : Array (Option Value)} {oc_Office_lend kV_Office_lend dc_Office_lend pm_Office_lend cd_Office_lend ct_Office_lend : Value}
    {f_Office_report : Addr} {od_Office_report an_Office_report : Option Addr} {sl_Office_report : Array (Option Value)} {oc_Office_report kV_Office_report dc_Office_report pm_Office_report cd_Office_report ct_Office_report : Value}
    {f_Office_back : Addr} {od_Office_back an_Office_back : Option Addr} {sl_Office_back : Array (Option Value)} {oc_Office_back kV_Office_back dc_Office_back pm_Office_back cd_Office_back ct_Office_back : Value}
    {f_Office_stop : Addr} {od_Office_stop an_Office_stop : Option Addr} {sl_Office_stop : Array (Option Value)} {oc_Office_stop kV_Office_stop dc_Office_stop pm_Office_stop cd_Office_stop ct_Office_stop : Value}
    {f_Office_found : Addr} {od_Office_found an_Office_found : Option Addr} {sl_Office_found : Array (Option Value)} {oc_Office_found kV_Office_found dc_Office_found pm_Office_found cd_Office_found ct_Office_found : Value}
    {f_Office_settle : Addr} {od_Office_settle an_Office_settle : Option Addr} {sl_Office_settle : Array (Option Value)} {oc_Office_settle kV_Office_settle dc_Office_settle pm_Office_settle cd_Office_settle ct_Office_settle : Value}
    {f_Office_open_numbers : Addr} {od_Office_open_numbers an_Office_open_numbers : Option Addr} {sl_Office_open_numbers : Array (Option Value)} {oc_Office_open_numbers kV_Office_open_numbers dc_Office_open_numbers pm_Office_open_numbers cd_Office_open_numbers ct_Office_open_numbers : Value}
    {f_Office_rest : Addr} {od_Office_rest an_Office_rest : Option Addr} {sl_Office_rest : Array (Option Value)} {oc_Office_rest kV_Office_rest dc_Office_rest pm_Office_rest cd_Office_rest ct_Office_rest : Value}
    {f_Office_has_rest : Addr} {od_Office_has_rest an_Office_has_rest : Option Addr} {sl_Office_has_rest : Array (Option Value)} {oc_Office_has_rest kV_Office_has_rest dc_Office_has_rest pm_Office_has_rest cd_Office_has_rest ct_Office_has_rest : Value}
    {f_Office_least_used : Addr} {od_Office_least_used an_Office_least_used : Option Addr} {sl_Office_least_used : Array (Option Value)} {oc_Office_least_used kV_Office_least_used dc_Office_least_used pm_Office_least_used cd_Office_least_used ct_Office_least_used : Value}
    {f_Office_numbers : Addr} {od_Office_numbers an_Office_numbers : Option Addr} {sl_Office_numbers : Array (Option Value)} {oc_Office_numbers kV_Office_numbers dc_Office_numbers pm_Office_numbers cd_Office_numbers ct_Office_numbers : Value}
    {f_Office_state : Addr} {od_Office_state an_Office_state : Option Addr} {sl_Office_state : Array (Option Value)} {oc_Office_state kV_Office_state dc_Office_state pm_Office_state cd_Office_state ct_Office_state : Value}
    {f_Office_holder : Addr} {od_Office_holder an_Office_holder : Option Addr} {sl_Office_holder : Array (Option Value)} {oc_Office_holder kV_Office_holder dc_Office_holder pm_Office_holder cd_Office_holder ct_Office_holder : Value}
    {f_Office__check_desk : Addr} {od_Office__check_desk an_Office__check_desk : Option Addr} {sl_Office__check_desk : Array (Option Value)} {oc_Office__check_desk kV_Office__check_desk dc_Office__check_desk pm_Office__check_desk cd_Office__check_desk ct_Office__check_desk : Value}
    {f_Office__check_going : Addr} {od_Office__check_going an_Office__check_going : Option Addr} {sl_Office__check_going : Array (Option Value)} {oc_Office__check_going kV_Office__check_going dc_Office__check_going pm_Office__check_going cd_Office__check_going ct_Office__check_going : Value}
    {f_Office__first_of_free : Addr} {od_Office__first_of_free an_Office__first_of_free : Option Addr} {sl_Office__first_of_free : Array (Option Value)} {oc_Office__first_of_free kV_Office__first_of_free dc_Office__first_of_free pm_Office__first_of_free cd_Office__first_of_free ct_Office__first_of_free : Value}
    {f_Office__let_go : Addr} {od_Office__let_go an_Office__let_go : Option Addr} {sl_Office__let_go : Array (Option Value)} {oc_Office__let_go kV_Office__let_go dc_Office__let_go pm_Office__let_go cd_Office__let_go ct_Office__let_go : Value}
    {f_Office__use : Addr} {od_Office__use an_Office__use : Option Addr} {sl_Office__use : Array (Option Value)} {oc_Office__use kV_Office__use dc_Office__use pm_Office__use cd_Office__use ct_Office__use : Value}
    {f_played : Addr} {od_played an_played : Option Addr} {sl_played : Array (Option Value)} {oc_played kV_played dc_played pm_played cd_played ct_played : Value}
    {f_answer : Addr} {od_answer an_answer : Option Addr} {sl_answer : Array (Option Value)} {oc_answer kV_answer dc_answer pm_answer cd_answer ct_answer : Value}
    {f_done : Addr} {od_done an_done : Option Addr} {sl_done : Array (Option Value)} {oc_done kV_done dc_done pm_done cd_done ct_done : Value}
    {f_is_deed : Addr} {od_is_deed an_is_deed : Option Addr} {sl_is_deed : Array (Option Value)} {oc_is_deed kV_is_deed dc_is_deed pm_is_deed cd_is_deed ct_is_deed : Value}
    {f_are_reported : Addr} {od_are_reported an_are_reported : Option Addr} {sl_are_reported : Array (Option Value)} {oc_are_reported kV_are_reported dc_are_reported pm_are_reported cd_are_reported ct_are_reported : Value}
    {f_is_number : Addr} {od_is_number an_is_number : Option Addr} {sl_is_number : Array (Option Value)} {oc_is_number kV_is_number dc_is_number pm_is_number cd_is_number ct_is_number : Value}
    {f_state_of : Addr} {od_state_of an_state_of : Option Addr} {sl_state_of : Array (Option Value)} {oc_state_of kV_state_of dc_state_of pm_state_of cd_state_of ct_state_of : Value}
    {f_l_start : Addr} {od_l_start an_l_start : Option Addr} {sl_l_start : Array (Option Value)} {oc_l_start kV_l_start dc_l_start pm_l_start cd_l_start ct_l_start : Value}
    {f_l_drawn : Addr} {od_l_drawn an_l_drawn : Option Addr} {sl_l_drawn : Array (Option Value)} {oc_l_drawn kV_l_drawn dc_l_drawn pm_l_drawn cd_l_drawn ct_l_drawn : Value}
    {f_l_same : Addr} {od_l_same an_l_same : Option Addr} {sl_l_same : Array (Option Value)} {oc_l_same kV_l_same dc_l_same pm_l_same cd_l_same ct_l_same : Value}
    {f_l_office : Addr} {od_l_office an_l_office : Option Addr} {sl_l_office : Array (Option Value)} {oc_l_office kV_l_office dc_l_office pm_l_office cd_l_office ct_l_office : Value}
    {f_l_holder : Addr} {od_l_holder an_l_holder : Option Addr} {sl_l_holder : Array (Option Value)} {oc_l_holder kV_l_holder dc_l_holder pm_l_holder cd_l_holder ct_l_holder : Value}
    {f_l_lent : Addr} {od_l_lent an_l_lent : Option Addr} {sl_l_lent : Array (Option Value)} {oc_l_lent kV_l_lent dc_l_lent pm_l_lent cd_l_lent ct_l_lent : Value}
    {f_l_reported : Addr} {od_l_reported an_l_reported : Option Addr} {sl_l_reported : Array (Option Value)} {oc_l_reported kV_l_reported dc_l_reported pm_l_reported cd_l_reported ct_l_reported : Value}
    {f_l_found : Addr} {od_l_found an_l_found : Option Addr} {sl_l_found : Array (Option Value)} {oc_l_found kV_l_found dc_l_found pm_l_found cd_l_found ct_l_found : Value}
    {f_l_settled : Addr} {od_l_settled an_l_settled : Option Addr} {sl_l_settled : Array (Option Value)} {oc_l_settled kV_l_settled dc_l_settled pm_l_settled cd_l_settled ct_l_settled : Value}
    {f_l_due : Addr} {od_l_due an_l_due : Option Addr} {sl_l_due : Array (Option Value)} {oc_l_due kV_l_due dc_l_due pm_l_due cd_l_due ct_l_due : Value}
    {f_l_does : Addr} {od_l_does an_l_does : Option Addr} {sl_l_does : Array (Option Value)} {oc_l_does kV_l_does dc_l_does pm_l_does cd_l_does ct_l_does : Value}
    {f_l_told : Addr} {od_l_told an_l_told : Option Addr} {sl_l_told : Array (Option Value)} {oc_l_told kV_l_told dc_l_told pm_l_told cd_l_told ct_l_told : Value}
    {f_l_words : Addr} {od_l_words an_l_words : Option Addr} {sl_l_words : Array (Option Value)} {oc_l_words kV_l_words dc_l_words pm_l_words cd_l_words ct_l_words : Value}
    {f_l_deed : Addr} {od_l_deed an_l_deed : Option Addr} {sl_l_deed : Array (Option Value)} {oc_l_deed kV_l_deed dc_l_deed pm_l_deed cd_l_deed ct_l_deed : Value}
    {f_l_is : Addr} {od_l_is an_l_is : Option Addr} {sl_l_is : Array (Option Value)} {oc_l_is kV_l_is dc_l_is pm_l_is cd_l_is ct_l_is : Value}
    {f_l_state : Addr} {od_l_state an_l_state : Option Addr} {sl_l_state : Array (Option Value)} {oc_l_state kV_l_state dc_l_state pm_l_state cd_l_state ct_l_state : Value}
    {f_l_text : Addr} {od_l_text an_l_text : Option Addr} {sl_l_text : Array (Option Value)} {oc_l_text kV_l_text dc_l_text pm_l_text cd_l_text ct_l_text : Value}
    {f_l_odd : Addr} {od_l_odd an_l_odd : Option Addr} {sl_l_odd : Array (Option Value)} {oc_l_odd kV_l_odd dc_l_odd pm_l_odd cd_l_odd ct_l_odd : Value}
    {f_l_answer : Addr} {od_l_answer an_l_answer : Option Addr} {sl_l_answer : Array (Option Value)} {oc_l_answer kV_l_answer dc_l_answer pm_l_answer cd_l_answer ct_l_answer : Value}
    {f_l_no_office : Addr} {od_l_no_office an_l_no_office : Option Addr} {sl_l_no_office : Array (Option Value)} {oc_l_no_office kV_l_no_office dc_l_no_office pm_l_no_office cd_l_no_office ct_l_no_office : Value}
    {f_law : Addr} {od_law an_law : Option Addr} {sl_law : Array (Option Value)} {oc_law kV_law dc_law pm_law cd_law ct_law : Value}
    {t_MOST_NUMBERS : _}
    {t_MOST_DESKS : _}
    {t_FREE : _}
    {t_OPEN : _}
    {t_PAPER : _}
    {t_SPOILT : _}
    {t_USED : _}
    {t_REST : _}
    {t_GOING : _}
    {t_STOPPED : _}
    {t_SETTLED : _}
    {t_BAD_ROW : _}
    {t_DONE : _}
    {t_MOST_FIGURES : _}
    {t_FIGURES : _}
    {t_REPORT : _}
    (hC : PySem.W.nsIn K mainGlobals "Office" = some (some (.ref C)))
    (hn_ValueError : PySem.W.nsIn K mainGlobals "ValueError" = some none)
    (hn_all : PySem.W.nsIn K mainGlobals "all" = some none)
    (hn_bool : PySem.W.nsIn K mainGlobals "bool" = some none)
    (hn_dict : PySem.W.nsIn K mainGlobals "dict" = some none)
    (hn_int : PySem.W.nsIn K mainGlobals "int" = some none)
    (hn_isinstance : PySem.W.nsIn K mainGlobals "isinstance" = some none)
    (hn_len : PySem.W.nsIn K mainGlobals "len" = some none)
    (hn_list : PySem.W.nsIn K mainGlobals "list" = some none)
    (hn_max : PySem.W.nsIn K mainGlobals "max" = some none)
    (hn_range : PySem.W.nsIn K mainGlobals "range" = some none)
    (hn_sorted : PySem.W.nsIn K mainGlobals "sorted" = some none)
    (hn_str : PySem.W.nsIn K mainGlobals "str" = some none)
    (hn_tuple : PySem.W.nsIn K mainGlobals "tuple" = some none)
    (hn_zip : PySem.W.nsIn K mainGlobals "zip" = some none)
    (hc_MOST_NUMBERS : PySem.W.nsIn K mainGlobals "MOST_NUMBERS" = some (some (.int 400 t_MOST_NUMBERS)))
    (hc_MOST_DESKS : PySem.W.nsIn K mainGlobals "MOST_DESKS" = some (some (.int 6 t_MOST_DESKS)))
    (hc_FREE : PySem.W.nsIn K mainGlobals "FREE" = some (some (.str "free" t_FREE)))
    (hc_OPEN : PySem.W.nsIn K mainGlobals "OPEN" = some (some (.str "open" t_OPEN)))
    (hc_PAPER : PySem.W.nsIn K mainGlobals "PAPER" = some (some (.str "paper" t_PAPER)))
    (hc_SPOILT : PySem.W.nsIn K mainGlobals "SPOILT" = some (some (.str "spoilt" t_SPOILT)))
    (hc_USED : PySem.W.nsIn K mainGlobals "USED" = some (some (.str "used" t_USED)))
    (hc_REST : PySem.W.nsIn K mainGlobals "REST" = some (some (.str "rest" t_REST)))
    (hc_GOING : PySem.W.nsIn K mainGlobals "GOING" = some (some (.str "going" t_GOING)))
    (hc_STOPPED : PySem.W.nsIn K mainGlobals "STOPPED" = some (some (.str "stopped" t_STOPPED)))
    (hc_SETTLED : PySem.W.nsIn K mainGlobals "SETTLED" = some (some (.str "settled" t_SETTLED)))
    (hc_BAD_ROW : PySem.W.nsIn K mainGlobals "BAD_ROW" = some (some (.str "BadRow" t_BAD_ROW)))
    (hc_DONE : PySem.W.nsIn K mainGlobals "DONE" = some (some (.str "done" t_DONE)))
    (hc_MOST_FIGURES : PySem.W.nsIn K mainGlobals "MOST_FIGURES" = some (some (.int 60 t_MOST_FIGURES)))
    (hc_FIGURES : PySem.W.nsIn K mainGlobals "FIGURES" = some (some (.str "0123456789" t_FIGURES)))
    (hc_REPORT : PySem.W.nsIn K mainGlobals "REPORT" = some (some (.str "report" t_REPORT)))
    (ha_Office_init : PySem.W.findIn K (.ref C) "__init__" = some (some (.ref f_Office_init)))
    (hi_Office_init : PySem.W.isFn K (.ref f_Office_init) = true)
    (hl_Office_init : K.lookup f_Office_init = some ⟨oc_Office_init, od_Office_init, .func (PySem.W.fnOf "__init__" "Office.__init__" (defArgs s_Office_init) (defBody s_Office_init) (defScope s_Office_init) .none kV_Office_init dc_Office_init pm_Office_init an_Office_init cd_Office_init ct_Office_init), sl_Office_init⟩)
    (hd_Office_init : PySem.W.codeIn K cd_Office_init "Office.__init__" = true)
    (hk_Office_init : PySem.W.keepIn K (.ref f_Office_init) = true)
    (ha_Office_lend : PySem.W.findIn K (.ref C) "lend" = some (some (.ref f_Office_lend)))
    (hi_Office_lend : PySem.W.isFn K (.ref f_Office_lend) = true)
    (hl_Office_lend : K.lookup f_Office_lend = some ⟨oc_Office_lend, od_Office_lend, .func (PySem.W.fnOf "lend" "Office.lend" (defArgs s_Office_lend) (defBody s_Office_lend) (defScope s_Office_lend) .none kV_Office_lend dc_Office_lend pm_Office_lend an_Office_lend cd_Office_lend ct_Office_lend), sl_Office_lend⟩)
    (hd_Office_lend : PySem.W.codeIn K cd_Office_lend "Office.lend" = true)
    (hk_Office_lend : PySem.W.keepIn K (.ref f_Office_lend) = true)
    (ha_Office_report : PySem.W.findIn K (.ref C) "report" = some (some (.ref f_Office_report)))
    (hi_Office_report : PySem.W.isFn K (.ref f_Office_report) = true)
    (hl_Office_report : K.lookup f_Office_report = some ⟨oc_Office_report, od_Office_report, .func (PySem.W.fnOf "report" "Office.report" (defArgs s_Office_report) (defBody s_Office_report) (defScope s_Office_report) .none kV_Office_report dc_Office_report pm_Office_report an_Office_report cd_Office_report ct_Office_report), sl_Office_report⟩)
    (hd_Office_report : PySem.W.codeIn K cd_Office_report "Office.report" = true)
    (hk_Office_report : PySem.W.keepIn K (.ref f_Office_report) = true)
    (ha_Office_back : PySem.W.findIn K (.ref C) "back" = some (some (.ref f_Office_back)))
    (hi_Office_back : PySem.W.isFn K (.ref f_Office_back) = true)
    (hl_Office_back : K.lookup f_Office_back = some ⟨oc_Office_back, od_Office_back, .func (PySem.W.fnOf "back" "Office.back" (defArgs s_Office_back) (defBody s_Office_back) (defScope s_Office_back) .none kV_Office_back dc_Office_back pm_Office_back an_Office_back cd_Office_back ct_Office_back), sl_Office_back⟩)
    (hd_Office_back : PySem.W.codeIn K cd_Office_back "Office.back" = true)
    (hk_Office_back : PySem.W.keepIn K (.ref f_Office_back) = true)
    (ha_Office_stop : PySem.W.findIn K (.ref C) "stop" = some (some (.ref f_Office_stop)))
    (hi_Office_stop : PySem.W.isFn K (.ref f_Office_stop) = true)
    (hl_Office_stop : K.lookup f_Office_stop = some ⟨oc_Office_stop, od_Office_stop, .func (PySem.W.fnOf "stop" "Office.stop" (defArgs s_Office_stop) (defBody s_Office_stop) (defScope s_Office_stop) .none kV_Office_stop dc_Office_stop pm_Office_stop an_Office_stop cd_Office_stop ct_Office_stop), sl_Office_stop⟩)
    (hd_Office_stop : PySem.W.codeIn K cd_Office_stop "Office.stop" = true)
    (hk_Office_stop : PySem.W.keepIn K (.ref f_Office_stop) = true)
    (ha_Office_found : PySem.W.findIn K (.ref C) "found" = some (some (.ref f_Office_found)))
    (hi_Office_found : PySem.W.isFn K (.ref f_Office_found) = true)
    (hl_Office_found : K.lookup f_Office_found = some ⟨oc_Office_found, od_Office_found, .func (PySem.W.fnOf "found" "Office.found" (defArgs s_Office_found) (defBody s_Office_found) (defScope s_Office_found) .none kV_Office_found dc_Office_found pm_Office_found an_Office_found cd_Office_found ct_Office_found), sl_Office_found⟩)
    (hd_Office_found : PySem.W.codeIn K cd_Office_found "Office.found" = true)
    (hk_Office_found : PySem.W.keepIn K (.ref f_Office_found) = true)
    (ha_Office_settle : PySem.W.findIn K (.ref C) "settle" = some (some (.ref f_Office_settle)))
    (hi_Office_settle : PySem.W.isFn K (.ref f_Office_settle) = true)
    (hl_Office_settle : K.lookup f_Office_settle = some ⟨oc_Office_settle, od_Office_settle, .func (PySem.W.fnOf "settle" "Office.settle" (defArgs s_Office_settle) (defBody s_Office_settle) (defScope s_Office_settle) .none kV_Office_settle dc_Office_settle pm_Office_settle an_Office_settle cd_Office_settle ct_Office_settle), sl_Office_settle⟩)
    (hd_Office_settle : PySem.W.codeIn K cd_Office_settle "Office.settle" = true)
    (hk_Office_settle : PySem.W.keepIn K (.ref f_Office_settle) = true)
    (ha_Office_open_numbers : PySem.W.findIn K (.ref C) "open_numbers" = some (some (.ref f_Office_open_numbers)))
    (hi_Office_open_numbers : PySem.W.isFn K (.ref f_Office_open_numbers) = true)
    (hl_Office_open_numbers : K.lookup f_Office_open_numbers = some ⟨oc_Office_open_numbers, od_Office_open_numbers, .func (PySem.W.fnOf "open_numbers" "Office.open_numbers" (defArgs s_Office_open_numbers) (defBody s_Office_open_numbers) (defScope s_Office_open_numbers) .none kV_Office_open_numbers dc_Office_open_numbers pm_Office_open_numbers an_Office_open_numbers cd_Office_open_numbers ct_Office_open_numbers), sl_Office_open_numbers⟩)
    (hd_Office_open_numbers : PySem.W.codeIn K cd_Office_open_numbers "Office.open_numbers" = true)
    (hk_Office_open_numbers : PySem.W.keepIn K (.ref f_Office_open_numbers) = true)
    (ha_Office_rest : PySem.W.findIn K (.ref C) "rest" = some (some (.ref f_Office_rest)))
    (hi_Office_rest : PySem.W.isFn K (.ref f_Office_rest) = true)
    (hl_Office_rest : K.lookup f_Office_rest = some ⟨oc_Office_rest, od_Office_rest, .func (PySem.W.fnOf "rest" "Office.rest" (defArgs s_Office_rest) (defBody s_Office_rest) (defScope s_Office_rest) .none kV_Office_rest dc_Office_rest pm_Office_rest an_Office_rest cd_Office_rest ct_Office_rest), sl_Office_rest⟩)
    (hd_Office_rest : PySem.W.codeIn K cd_Office_rest "Office.rest" = true)
    (hk_Office_rest : PySem.W.keepIn K (.ref f_Office_rest) = true)
    (ha_Office_has_rest : PySem.W.findIn K (.ref C) "has_rest" = some (some (.ref f_Office_has_rest)))
    (hi_Office_has_rest : PySem.W.isFn K (.ref f_Office_has_rest) = true)
    (hl_Office_has_rest : K.lookup f_Office_has_rest = some ⟨oc_Office_has_rest, od_Office_has_rest, .func (PySem.W.fnOf "has_rest" "Office.has_rest" (defArgs s_Office_has_rest) (defBody s_Office_has_rest) (defScope s_Office_has_rest) .none kV_Office_has_rest dc_Office_has_rest pm_Office_has_rest an_Office_has_rest cd_Office_has_rest ct_Office_has_rest), sl_Office_has_rest⟩)
    (hd_Office_has_rest : PySem.W.codeIn K cd_Office_has_rest "Office.has_rest" = true)
    (hk_Office_has_rest : PySem.W.keepIn K (.ref f_Office_has_rest) = true)
    (ha_Office_least_used : PySem.W.findIn K (.ref C) "least_used" = some (some (.ref f_Office_least_used)))
    (hi_Office_least_used : PySem.W.isFn K (.ref f_Office_least_used) = true)
    (hl_Office_least_used : K.lookup f_Office_least_used = some ⟨oc_Office_least_used, od_Office_least_used, .func (PySem.W.fnOf "least_used" "Office.least_used" (defArgs s_Office_least_used) (defBody s_Office_least_used) (defScope s_Office_least_used) .none kV_Office_least_used dc_Office_least_used pm_Office_least_used an_Office_least_used cd_Office_least_used ct_Office_least_used), sl_Office_least_used⟩)
    (hd_Office_least_used : PySem.W.codeIn K cd_Office_least_used "Office.least_used" = true)
    (hk_Office_least_used : PySem.W.keepIn K (.ref f_Office_least_used) = true)
    (ha_Office_numbers : PySem.W.findIn K (.ref C) "numbers" = some (some (.ref f_Office_numbers)))
    (hi_Office_numbers : PySem.W.isFn K (.ref f_Office_numbers) = true)
    (hl_Office_numbers : K.lookup f_Office_numbers = some ⟨oc_Office_numbers, od_Office_numbers, .func (PySem.W.fnOf "numbers" "Office.numbers" (defArgs s_Office_numbers) (defBody s_Office_numbers) (defScope s_Office_numbers) .none kV_Office_numbers dc_Office_numbers pm_Office_numbers an_Office_numbers cd_Office_numbers ct_Office_numbers), sl_Office_numbers⟩)
    (hd_Office_numbers : PySem.W.codeIn K cd_Office_numbers "Office.numbers" = true)
    (hk_Office_numbers : PySem.W.keepIn K (.ref f_Office_numbers) = true)
    (ha_Office_state : PySem.W.findIn K (.ref C) "state" = some (some (.ref f_Office_state)))
    (hi_Office_state : PySem.W.isFn K (.ref f_Office_state) = true)
    (hl_Office_state : K.lookup f_Office_state = some ⟨oc_Office_state, od_Office_state, .func (PySem.W.fnOf "state" "Office.state" (defArgs s_Office_state) (defBody s_Office_state) (defScope s_Office_state) .none kV_Office_state dc_Office_state pm_Office_state an_Office_state cd_Office_state ct_Office_state), sl_Office_state⟩)
    (hd_Office_state : PySem.W.codeIn K cd_Office_state "Office.state" = true)
    (hk_Office_state : PySem.W.keepIn K (.ref f_Office_state) = true)
    (ha_Office_holder : PySem.W.findIn K (.ref C) "holder" = some (some (.ref f_Office_holder)))
    (hi_Office_holder : PySem.W.isFn K (.ref f_Office_holder) = true)
    (hl_Office_holder : K.lookup f_Office_holder = some ⟨oc_Office_holder, od_Office_holder, .func (PySem.W.fnOf "holder" "Office.holder" (defArgs s_Office_holder) (defBody s_Office_holder) (defScope s_Office_holder) .none kV_Office_holder dc_Office_holder pm_Office_holder an_Office_holder cd_Office_holder ct_Office_holder), sl_Office_holder⟩)
    (hd_Office_holder : PySem.W.codeIn K cd_Office_holder "Office.holder" = true)
    (hk_Office_holder : PySem.W.keepIn K (.ref f_Office_holder) = true)
    (ha_Office__check_desk : PySem.W.findIn K (.ref C) "_check_desk" = some (some (.ref f_Office__check_desk)))
    (hi_Office__check_desk : PySem.W.isFn K (.ref f_Office__check_desk) = true)
    (hl_Office__check_desk : K.lookup f_Office__check_desk = some ⟨oc_Office__check_desk, od_Office__check_desk, .func (PySem.W.fnOf "_check_desk" "Office._check_desk" (defArgs s_Office__check_desk) (defBody s_Office__check_desk) (defScope s_Office__check_desk) .none kV_Office__check_desk dc_Office__check_desk pm_Office__check_desk an_Office__check_desk cd_Office__check_desk ct_Office__check_desk), sl_Office__check_desk⟩)
    (hd_Office__check_desk : PySem.W.codeIn K cd_Office__check_desk "Office._check_desk" = true)
    (hk_Office__check_desk : PySem.W.keepIn K (.ref f_Office__check_desk) = true)
    (ha_Office__check_going : PySem.W.findIn K (.ref C) "_check_going" = some (some (.ref f_Office__check_going)))
    (hi_Office__check_going : PySem.W.isFn K (.ref f_Office__check_going) = true)
    (hl_Office__check_going : K.lookup f_Office__check_going = some ⟨oc_Office__check_going, od_Office__check_going, .func (PySem.W.fnOf "_check_going" "Office._check_going" (defArgs s_Office__check_going) (defBody s_Office__check_going) (defScope s_Office__check_going) .none kV_Office__check_going dc_Office__check_going pm_Office__check_going an_Office__check_going cd_Office__check_going ct_Office__check_going), sl_Office__check_going⟩)
    (hd_Office__check_going : PySem.W.codeIn K cd_Office__check_going "Office._check_going" = true)
    (hk_Office__check_going : PySem.W.keepIn K (.ref f_Office__check_going) = true)
    (ha_Office__first_of_free : PySem.W.findIn K (.ref C) "_first_of_free" = some (some (.ref f_Office__first_of_free)))
    (hi_Office__first_of_free : PySem.W.isFn K (.ref f_Office__first_of_free) = true)
    (hl_Office__first_of_free : K.lookup f_Office__first_of_free = some ⟨oc_Office__first_of_free, od_Office__first_of_free, .func (PySem.W.fnOf "_first_of_free" "Office._first_of_free" (defArgs s_Office__first_of_free) (defBody s_Office__first_of_free) (defScope s_Office__first_of_free) .none kV_Office__first_of_free dc_Office__first_of_free pm_Office__first_of_free an_Office__first_of_free cd_Office__first_of_free ct_Office__first_of_free), sl_Office__first_of_free⟩)
    (hd_Office__first_of_free : PySem.W.codeIn K cd_Office__first_of_free "Office._first_of_free" = true)
    (hk_Office__first_of_free : PySem.W.keepIn K (.ref f_Office__first_of_free) = true)
    (ha_Office__let_go : PySem.W.findIn K (.ref C) "_let_go" = some (some (.ref f_Office__let_go)))
    (hi_Office__let_go : PySem.W.isFn K (.ref f_Office__let_go) = true)
    (hl_Office__let_go : K.lookup f_Office__let_go = some ⟨oc_Office__let_go, od_Office__let_go, .func (PySem.W.fnOf "_let_go" "Office._let_go" (defArgs s_Office__let_go) (defBody s_Office__let_go) (defScope s_Office__let_go) .none kV_Office__let_go dc_Office__let_go pm_Office__let_go an_Office__let_go cd_Office__let_go ct_Office__let_go), sl_Office__let_go⟩)
    (hd_Office__let_go : PySem.W.codeIn K cd_Office__let_go "Office._let_go" = true)
    (hk_Office__let_go : PySem.W.keepIn K (.ref f_Office__let_go) = true)
    (ha_Office__use : PySem.W.findIn K (.ref C) "_use" = some (some (.ref f_Office__use)))
    (hi_Office__use : PySem.W.isFn K (.ref f_Office__use) = true)
    (hl_Office__use : K.lookup f_Office__use = some ⟨oc_Office__use, od_Office__use, .func (PySem.W.fnOf "_use" "Office._use" (defArgs s_Office__use) (defBody s_Office__use) (defScope s_Office__use) .none kV_Office__use dc_Office__use pm_Office__use an_Office__use cd_Office__use ct_Office__use), sl_Office__use⟩)
    (hd_Office__use : PySem.W.codeIn K cd_Office__use "Office._use" = true)
    (hk_Office__use : PySem.W.keepIn K (.ref f_Office__use) = true)
    (ha_played : PySem.W.nsIn K mainGlobals "played" = some (some (.ref f_played)))
    (hl_played : K.lookup f_played = some ⟨oc_played, od_played, .func (PySem.W.fnOf "played" "played" (defArgs s_played) (defBody s_played) (defScope s_played) .none kV_played dc_played pm_played an_played cd_played ct_played), sl_played⟩)
    (hd_played : PySem.W.codeIn K cd_played "played" = true)
    (hk_played : PySem.W.keepIn K (.ref f_played) = true)
    (ha_answer : PySem.W.nsIn K mainGlobals "_answer" = some (some (.ref f_answer)))
    (hl_answer : K.lookup f_answer = some ⟨oc_answer, od_answer, .func (PySem.W.fnOf "_answer" "_answer" (defArgs s_answer) (defBody s_answer) (defScope s_answer) .none kV_answer dc_answer pm_answer an_answer cd_answer ct_answer), sl_answer⟩)
    (hd_answer : PySem.W.codeIn K cd_answer "_answer" = true)
    (hk_answer : PySem.W.keepIn K (.ref f_answer) = true)
    (ha_done : PySem.W.nsIn K mainGlobals "_done" = some (some (.ref f_done)))
    (hl_done : K.lookup f_done = some ⟨oc_done, od_done, .func (PySem.W.fnOf "_done" "_done" (defArgs s_done) (defBody s_done) (defScope s_done) .none kV_done dc_done pm_done an_done cd_done ct_done), sl_done⟩)
    (hd_done : PySem.W.codeIn K cd_done "_done" = true)
    (hk_done : PySem.W.keepIn K (.ref f_done) = true)
    (ha_is_deed : PySem.W.nsIn K mainGlobals "_is_deed" = some (some (.ref f_is_deed)))
    (hl_is_deed : K.lookup f_is_deed = some ⟨oc_is_deed, od_is_deed, .func (PySem.W.fnOf "_is_deed" "_is_deed" (defArgs s_is_deed) (defBody s_is_deed) (defScope s_is_deed) .none kV_is_deed dc_is_deed pm_is_deed an_is_deed cd_is_deed ct_is_deed), sl_is_deed⟩)
    (hd_is_deed : PySem.W.codeIn K cd_is_deed "_is_deed" = true)
    (hk_is_deed : PySem.W.keepIn K (.ref f_is_deed) = true)
    (ha_are_reported : PySem.W.nsIn K mainGlobals "_are_reported" = some (some (.ref f_are_reported)))
    (hl_are_reported : K.lookup f_are_reported = some ⟨oc_are_reported, od_are_reported, .func (PySem.W.fnOf "_are_reported" "_are_reported" (defArgs s_are_reported) (defBody s_are_reported) (defScope s_are_reported) .none kV_are_reported dc_are_reported pm_are_reported an_are_reported cd_are_reported ct_are_reported), sl_are_reported⟩)
    (hd_are_reported : PySem.W.codeIn K cd_are_reported "_are_reported" = true)
    (hk_are_reported : PySem.W.keepIn K (.ref f_are_reported) = true)
    (ha_is_number : PySem.W.nsIn K mainGlobals "_is_number" = some (some (.ref f_is_number)))
    (hl_is_number : K.lookup f_is_number = some ⟨oc_is_number, od_is_number, .func (PySem.W.fnOf "_is_number" "_is_number" (defArgs s_is_number) (defBody s_is_number) (defScope s_is_number) .none kV_is_number dc_is_number pm_is_number an_is_number cd_is_number ct_is_number), sl_is_number⟩)
    (hd_is_number : PySem.W.codeIn K cd_is_number "_is_number" = true)
    (hk_is_number : PySem.W.keepIn K (.ref f_is_number) = true)
    (ha_state_of : PySem.W.nsIn K mainGlobals "state_of" = some (some (.ref f_state_of)))
    (hl_state_of : K.lookup f_state_of = some ⟨oc_state_of, od_state_of, .func (PySem.W.fnOf "state_of" "state_of" (defArgs s_state_of) (defBody s_state_of) (defScope s_state_of) .none kV_state_of dc_state_of pm_state_of an_state_of cd_state_of ct_state_of), sl_state_of⟩)
    (hd_state_of : PySem.W.codeIn K cd_state_of "state_of" = true)
    (hk_state_of : PySem.W.keepIn K (.ref f_state_of) = true)
    (ha_l_start : PySem.W.nsIn K mainGlobals "_law_start" = some (some (.ref f_l_start)))
    (hl_l_start : K.lookup f_l_start = some ⟨oc_l_start, od_l_start, .func (PySem.W.fnOf "_law_start" "_law_start" (defArgs s_l_start) (defBody s_l_start) (defScope s_l_start) .none kV_l_start dc_l_start pm_l_start an_l_start cd_l_start ct_l_start), sl_l_start⟩)
    (hd_l_start : PySem.W.codeIn K cd_l_start "_law_start" = true)
    (hk_l_start : PySem.W.keepIn K (.ref f_l_start) = true)
    (ha_l_drawn : PySem.W.nsIn K mainGlobals "_law_drawn" = some (some (.ref f_l_drawn)))
    (hl_l_drawn : K.lookup f_l_drawn = some ⟨oc_l_drawn, od_l_drawn, .func (PySem.W.fnOf "_law_drawn" "_law_drawn" (defArgs s_l_drawn) (defBody s_l_drawn) (defScope s_l_drawn) .none kV_l_drawn dc_l_drawn pm_l_drawn an_l_drawn cd_l_drawn ct_l_drawn), sl_l_drawn⟩)
    (hd_l_drawn : PySem.W.codeIn K cd_l_drawn "_law_drawn" = true)
    (hk_l_drawn : PySem.W.keepIn K (.ref f_l_drawn) = true)
    (ha_l_same : PySem.W.nsIn K mainGlobals "_law_same" = some (some (.ref f_l_same)))
    (hl_l_same : K.lookup f_l_same = some ⟨oc_l_same, od_l_same, .func (PySem.W.fnOf "_law_same" "_law_same" (defArgs s_l_same) (defBody s_l_same) (defScope s_l_same) .none kV_l_same dc_l_same pm_l_same an_l_same cd_l_same ct_l_same), sl_l_same⟩)
    (hd_l_same : PySem.W.codeIn K cd_l_same "_law_same" = true)
    (hk_l_same : PySem.W.keepIn K (.ref f_l_same) = true)
    (ha_l_office : PySem.W.nsIn K mainGlobals "_law_office" = some (some (.ref f_l_office)))
    (hl_l_office : K.lookup f_l_office = some ⟨oc_l_office, od_l_office, .func (PySem.W.fnOf "_law_office" "_law_office" (defArgs s_l_office) (defBody s_l_office) (defScope s_l_office) .none kV_l_office dc_l_office pm_l_office an_l_office cd_l_office ct_l_office), sl_l_office⟩)
    (hd_l_office : PySem.W.codeIn K cd_l_office "_law_office" = true)
    (hk_l_office : PySem.W.keepIn K (.ref f_l_office) = true)
    (ha_l_holder : PySem.W.nsIn K mainGlobals "_law_holder" = some (some (.ref f_l_holder)))
    (hl_l_holder : K.lookup f_l_holder = some ⟨oc_l_holder, od_l_holder, .func (PySem.W.fnOf "_law_holder" "_law_holder" (defArgs s_l_holder) (defBody s_l_holder) (defScope s_l_holder) .none kV_l_holder dc_l_holder pm_l_holder an_l_holder cd_l_holder ct_l_holder), sl_l_holder⟩)
    (hd_l_holder : PySem.W.codeIn K cd_l_holder "_law_holder" = true)
    (hk_l_holder : PySem.W.keepIn K (.ref f_l_holder) = true)
    (ha_l_lent : PySem.W.nsIn K mainGlobals "_law_lent" = some (some (.ref f_l_lent)))
    (hl_l_lent : K.lookup f_l_lent = some ⟨oc_l_lent, od_l_lent, .func (PySem.W.fnOf "_law_lent" "_law_lent" (defArgs s_l_lent) (defBody s_l_lent) (defScope s_l_lent) .none kV_l_lent dc_l_lent pm_l_lent an_l_lent cd_l_lent ct_l_lent), sl_l_lent⟩)
    (hd_l_lent : PySem.W.codeIn K cd_l_lent "_law_lent" = true)
    (hk_l_lent : PySem.W.keepIn K (.ref f_l_lent) = true)
    (ha_l_reported : PySem.W.nsIn K mainGlobals "_law_reported" = some (some (.ref f_l_reported)))
    (hl_l_reported : K.lookup f_l_reported = some ⟨oc_l_reported, od_l_reported, .func (PySem.W.fnOf "_law_reported" "_law_reported" (defArgs s_l_reported) (defBody s_l_reported) (defScope s_l_reported) .none kV_l_reported dc_l_reported pm_l_reported an_l_reported cd_l_reported ct_l_reported), sl_l_reported⟩)
    (hd_l_reported : PySem.W.codeIn K cd_l_reported "_law_reported" = true)
    (hk_l_reported : PySem.W.keepIn K (.ref f_l_reported) = true)
    (ha_l_found : PySem.W.nsIn K mainGlobals "_law_found" = some (some (.ref f_l_found)))
    (hl_l_found : K.lookup f_l_found = some ⟨oc_l_found, od_l_found, .func (PySem.W.fnOf "_law_found" "_law_found" (defArgs s_l_found) (defBody s_l_found) (defScope s_l_found) .none kV_l_found dc_l_found pm_l_found an_l_found cd_l_found ct_l_found), sl_l_found⟩)
    (hd_l_found : PySem.W.codeIn K cd_l_found "_law_found" = true)
    (hk_l_found : PySem.W.keepIn K (.ref f_l_found) = true)
    (ha_l_settled : PySem.W.nsIn K mainGlobals "_law_settled" = some (some (.ref f_l_settled)))
    (hl_l_settled : K.lookup f_l_settled = some ⟨oc_l_settled, od_l_settled, .func (PySem.W.fnOf "_law_settled" "_law_settled" (defArgs s_l_settled) (defBody s_l_settled) (defScope s_l_settled) .none kV_l_settled dc_l_settled pm_l_settled an_l_settled cd_l_settled ct_l_settled), sl_l_settled⟩)
    (hd_l_settled : PySem.W.codeIn K cd_l_settled "_law_settled" = true)
    (hk_l_settled : PySem.W.keepIn K (.ref f_l_settled) = true)
    (ha_l_due : PySem.W.nsIn K mainGlobals "_law_due" = some (some (.ref f_l_due)))
    (hl_l_due : K.lookup f_l_due = some ⟨oc_l_due, od_l_due, .func (PySem.W.fnOf "_law_due" "_law_due" (defArgs s_l_due) (defBody s_l_due) (defScope s_l_due) .none kV_l_due dc_l_due pm_l_due an_l_due cd_l_due ct_l_due), sl_l_due⟩)
    (hd_l_due : PySem.W.codeIn K cd_l_due "_law_due" = true)
    (hk_l_due : PySem.W.keepIn K (.ref f_l_due) = true)
    (ha_l_does : PySem.W.nsIn K mainGlobals "_law_does" = some (some (.ref f_l_does)))
    (hl_l_does : K.lookup f_l_does = some ⟨oc_l_does, od_l_does, .func (PySem.W.fnOf "_law_does" "_law_does" (defArgs s_l_does) (defBody s_l_does) (defScope s_l_does) .none kV_l_does dc_l_does pm_l_does an_l_does cd_l_does ct_l_does), sl_l_does⟩)
    (hd_l_does : PySem.W.codeIn K cd_l_does "_law_does" = true)
    (hk_l_does : PySem.W.keepIn K (.ref f_l_does) = true)
    (ha_l_told : PySem.W.nsIn K mainGlobals "_law_told" = some (some (.ref f_l_told)))
    (hl_l_told : K.lookup f_l_told = some ⟨oc_l_told, od_l_told, .func (PySem.W.fnOf "_law_told" "_law_told" (defArgs s_l_told) (defBody s_l_told) (defScope s_l_told) .none kV_l_told dc_l_told pm_l_told an_l_told cd_l_told ct_l_told), sl_l_told⟩)
    (hd_l_told : PySem.W.codeIn K cd_l_told "_law_told" = true)
    (hk_l_told : PySem.W.keepIn K (.ref f_l_told) = true)
    (ha_l_words : PySem.W.nsIn K mainGlobals "_law_words" = some (some (.ref f_l_words)))
    (hl_l_words : K.lookup f_l_words = some ⟨oc_l_words, od_l_words, .func (PySem.W.fnOf "_law_words" "_law_words" (defArgs s_l_words) (defBody s_l_words) (defScope s_l_words) .none kV_l_words dc_l_words pm_l_words an_l_words cd_l_words ct_l_words), sl_l_words⟩)
    (hd_l_words : PySem.W.codeIn K cd_l_words "_law_words" = true)
    (hk_l_words : PySem.W.keepIn K (.ref f_l_words) = true)
    (ha_l_deed : PySem.W.nsIn K mainGlobals "_law_deed" = some (some (.ref f_l_deed)))
    (hl_l_deed : K.lookup f_l_deed = some ⟨oc_l_deed, od_l_deed, .func (PySem.W.fnOf "_law_deed" "_law_deed" (defArgs s_l_deed) (defBody s_l_deed) (defScope s_l_deed) .none kV_l_deed dc_l_deed pm_l_deed an_l_deed cd_l_deed ct_l_deed), sl_l_deed⟩)
    (hd_l_deed : PySem.W.codeIn K cd_l_deed "_law_deed" = true)
    (hk_l_deed : PySem.W.keepIn K (.ref f_l_deed) = true)
    (ha_l_is : PySem.W.nsIn K mainGlobals "_law_is" = some (some (.ref f_l_is)))
    (hl_l_is : K.lookup f_l_is = some ⟨oc_l_is, od_l_is, .func (PySem.W.fnOf "_law_is" "_law_is" (defArgs s_l_is) (defBody s_l_is) (defScope s_l_is) .none kV_l_is dc_l_is pm_l_is an_l_is cd_l_is ct_l_is), sl_l_is⟩)
    (hd_l_is : PySem.W.codeIn K cd_l_is "_law_is" = true)
    (hk_l_is : PySem.W.keepIn K (.ref f_l_is) = true)
    (ha_l_state : PySem.W.nsIn K mainGlobals "_law_state" = some (some (.ref f_l_state)))
    (hl_l_state : K.lookup f_l_state = some ⟨oc_l_state, od_l_state, .func (PySem.W.fnOf "_law_state" "_law_state" (defArgs s_l_state) (defBody s_l_state) (defScope s_l_state) .none kV_l_state dc_l_state pm_l_state an_l_state cd_l_state ct_l_state), sl_l_state⟩)
    (hd_l_state : PySem.W.codeIn K cd_l_state "_law_state" = true)
    (hk_l_state : PySem.W.keepIn K (.ref f_l_state) = true)
    (ha_l_text : PySem.W.nsIn K mainGlobals "_law_text" = some (some (.ref f_l_text)))
    (hl_l_text : K.lookup f_l_text = some ⟨oc_l_text, od_l_text, .func (PySem.W.fnOf "_law_text" "_law_text" (defArgs s_l_text) (defBody s_l_text) (defScope s_l_text) .none kV_l_text dc_l_text pm_l_text an_l_text cd_l_text ct_l_text), sl_l_text⟩)
    (hd_l_text : PySem.W.codeIn K cd_l_text "_law_text" = true)
    (hk_l_text : PySem.W.keepIn K (.ref f_l_text) = true)
    (ha_l_odd : PySem.W.nsIn K mainGlobals "_law_odd" = some (some (.ref f_l_odd)))
    (hl_l_odd : K.lookup f_l_odd = some ⟨oc_l_odd, od_l_odd, .func (PySem.W.fnOf "_law_odd" "_law_odd" (defArgs s_l_odd) (defBody s_l_odd) (defScope s_l_odd) .none kV_l_odd dc_l_odd pm_l_odd an_l_odd cd_l_odd ct_l_odd), sl_l_odd⟩)
    (hd_l_odd : PySem.W.codeIn K cd_l_odd "_law_odd" = true)
    (hk_l_odd : PySem.W.keepIn K (.ref f_l_odd) = true)
    (ha_l_answer : PySem.W.nsIn K mainGlobals "_law_answer" = some (some (.ref f_l_answer)))
    (hl_l_answer : K.lookup f_l_answer = some ⟨oc_l_answer, od_l_answer, .func (PySem.W.fnOf "_law_answer" "_law_answer" (defArgs s_l_answer) (defBody s_l_answer) (defScope s_l_answer) .none kV_l_answer dc_l_answer pm_l_answer an_l_answer cd_l_answer ct_l_answer), sl_l_answer⟩)
    (hd_l_answer : PySem.W.codeIn K cd_l_answer "_law_answer" = true)
    (hk_l_answer : PySem.W.keepIn K (.ref f_l_answer) = true)
    (ha_l_no_office : PySem.W.nsIn K mainGlobals "_law_no_office" = some (some (.ref f_l_no_office)))
    (hl_l_no_office : K.lookup f_l_no_office = some ⟨oc_l_no_office, od_l_no_office, .func (PySem.W.fnOf "_law_no_office" "_law_no_office" (defArgs s_l_no_office) (defBody s_l_no_office) (defScope s_l_no_office) .none kV_l_no_office dc_l_no_office pm_l_no_office an_l_no_office cd_l_no_office ct_l_no_office), sl_l_no_office⟩)
    (hd_l_no_office : PySem.W.codeIn K cd_l_no_office "_law_no_office" = true)
    (hk_l_no_office : PySem.W.keepIn K (.ref f_l_no_office) = true)
    (ha_law : PySem.W.nsIn K mainGlobals "law" = some (some (.ref f_law)))
    (hl_law : K.lookup f_law = some ⟨oc_law, od_law, .func (PySem.W.fnOf "law" "law" (defArgs s_law) (defBody s_law) (defScope s_law) .none kV_law dc_law pm_law an_law cd_law ct_law), sl_law⟩)
    (hd_law : PySem.W.codeIn K cd_law "law" = true)
    (hk_law : PySem.W.keepIn K (.ref f_law) = true)
    (pg : PySem.W.plainGet K C Str.empty = true)
    (hd : PySem.W.hasDictIn K C = true)
    (po : PySem.W.plainOver K C = true)
    (sa : PySem.W.findIn K (.ref C) "__setattr__" = some (some (.builtin "object.__setattr__")))
    (mk : PySem.W.makesIn K C = true)
    (kc : PySem.W.keepIn K (.ref C) = true)
    (hna_states : PySem.W.findIn K (.ref C) "_states" = some none)
    (hna_holders : PySem.W.findIn K (.ref C) "_holders" = some none)
    (hna_stages : PySem.W.findIn K (.ref C) "_stages" = some none)
    (hna_lent : PySem.W.findIn K (.ref C) "_lent" = some none)
    (xg_GapError : PySem.W.nsIn K mainGlobals "GapError" = some (some (.ref x_GapError)))
    (xx_GapError : PySem.W.excIn K x_GapError [.type "ValueError", .type "Exception", .type "BaseException", .type "object"] "ValueError.__new__" = true)
    (xk_GapError : PySem.W.keepIn K (.ref x_GapError) = true)
    (xb_GapError : PySem.W.subIn K (.ref x_GapError) (.type "BaseException") = some true)
    (xt_GapError : PySem.W.typeIn K (.ref x_GapError) = some (.type "type"))
    (xg_NoOffice : PySem.W.nsIn K mainGlobals "NoOffice" = some (some (.ref x_NoOffice)))
    (xx_NoOffice : PySem.W.excIn K x_NoOffice [.type "ValueError", .type "Exception", .type "BaseException", .type "object"] "ValueError.__new__" = true)
    (xk_NoOffice : PySem.W.keepIn K (.ref x_NoOffice) = true)
    (xb_NoOffice : PySem.W.subIn K (.ref x_NoOffice) (.type "BaseException") = some true)
    (xt_NoOffice : PySem.W.typeIn K (.ref x_NoOffice) = some (.type "type"))
    (xg_NoDesk : PySem.W.nsIn K mainGlobals "NoDesk" = some (some (.ref x_NoDesk)))
    (xx_NoDesk : PySem.W.excIn K x_NoDesk [.type "ValueError", .type "Exception", .type "BaseException", .type "object"] "ValueError.__new__" = true)
    (xk_NoDesk : PySem.W.keepIn K (.ref x_NoDesk) = true)
    (xb_NoDesk : PySem.W.subIn K (.ref x_NoDesk) (.type "BaseException") = some true)
    (xt_NoDesk : PySem.W.typeIn K (.ref x_NoDesk) = some (.type "type"))
    (xg_Stopped : PySem.W.nsIn K mainGlobals "Stopped" = some (some (.ref x_Stopped)))
    (xx_Stopped : PySem.W.excIn K x_Stopped [.type "ValueError", .type "Exception", .type "BaseException", .type "object"] "ValueError.__new__" = true)
    (xk_Stopped : PySem.W.keepIn K (.ref x_Stopped) = true)
    (xb_Stopped : PySem.W.subIn K (.ref x_Stopped) (.type "BaseException") = some true)
    (xt_Stopped : PySem.W.typeIn K (.ref x_Stopped) = some (.type "type"))
    (xg_NoRoom : PySem.W.nsIn K mainGlobals "NoRoom" = some (some (.ref x_NoRoom)))
    (xx_NoRoom : PySem.W.excIn K x_NoRoom [.type "ValueError", .type "Exception", .type "BaseException", .type "object"] "ValueError.__new__" = true)
    (xk_NoRoom : PySem.W.keepIn K (.ref x_NoRoom) = true)
    (xb_NoRoom : PySem.W.subIn K (.ref x_NoRoom) (.type "BaseException") = some true)
    (xt_NoRoom : PySem.W.typeIn K (.ref x_NoRoom) = some (.type "type"))
    (xg_NoCount : PySem.W.nsIn K mainGlobals "NoCount" = some (some (.ref x_NoCount)))
    (xx_NoCount : PySem.W.excIn K x_NoCount [.type "ValueError", .type "Exception", .type "BaseException", .type "object"] "ValueError.__new__" = true)
    (xk_NoCount : PySem.W.keepIn K (.ref x_NoCount) = true)
    (xb_NoCount : PySem.W.subIn K (.ref x_NoCount) (.type "BaseException") = some true)
    (xt_NoCount : PySem.W.typeIn K (.ref x_NoCount) = some (.type "type"))
    (xg_NoWord : PySem.W.nsIn K mainGlobals "NoWord" = some (some (.ref x_NoWord)))
    (xx_NoWord : PySem.W.excIn K x_NoWord [.type "ValueError", .type "Exception", .type "BaseException", .type "object"] "ValueError.__new__" = true)
    (xk_NoWord : PySem.W.keepIn K (.ref x_NoWord) = true)
    (xb_NoWord : PySem.W.subIn K (.ref x_NoWord) (.type "BaseException") = some true)
    (xt_NoWord : PySem.W.typeIn K (.ref x_NoWord) = some (.type "type"))
    (xg_Short : PySem.W.nsIn K mainGlobals "Short" = some (some (.ref x_Short)))
    (xx_Short : PySem.W.excIn K x_Short [.type "ValueError", .type "Exception", .type "BaseException", .type "object"] "ValueError.__new__" = true)
    (xk_Short : PySem.W.keepIn K (.ref x_Short) = true)
    (xb_Short : PySem.W.subIn K (.ref x_Short) (.type "BaseException") = some true)
    (xt_Short : PySem.W.typeIn K (.ref x_Short) = some (.type "type"))
    (xg_NoNumber : PySem.W.nsIn K mainGlobals "NoNumber" = some (some (.ref x_NoNumber)))
    (xx_NoNumber : PySem.W.excIn K x_NoNumber [.type "ValueError", .type "Exception", .type "BaseException", .type "object"] "ValueError.__new__" = true)
    (xk_NoNumber : PySem.W.keepIn K (.ref x_NoNumber) = true)
    (xb_NoNumber : PySem.W.subIn K (.ref x_NoNumber) (.type "BaseException") = some true)
    (xt_NoNumber : PySem.W.typeIn K (.ref x_NoNumber) = some (.type "type"))
    (xg_Twice : PySem.W.nsIn K mainGlobals "Twice" = some (some (.ref x_Twice)))
    (xx_Twice : PySem.W.excIn K x_Twice [.type "ValueError", .type "Exception", .type "BaseException", .type "object"] "ValueError.__new__" = true)
    (xk_Twice : PySem.W.keepIn K (.ref x_Twice) = true)
    (xb_Twice : PySem.W.subIn K (.ref x_Twice) (.type "BaseException") = some true)
    (xt_Twice : PySem.W.typeIn K (.ref x_Twice) = some (.type "type"))
    (xg_NotThere : PySem.W.nsIn K mainGlobals "NotThere" = some (some (.ref x_NotThere)))
    (xx_NotThere : PySem.W.excIn K x_NotThere [.type "ValueError", .type "Exception", .type "BaseException", .type "object"] "ValueError.__new__" = true)
    (xk_NotThere : PySem.W.keepIn K (.ref x_NotThere) = true)
    (xb_NotThere : PySem.W.subIn K (.ref x_NotThere) (.type "BaseException") = some true)
    (xt_NotThere : PySem.W.typeIn K (.ref x_NotThere) = some (.type "type"))
    (xg_NoWorld : PySem.W.nsIn K mainGlobals "NoWorld" = some (some (.ref x_NoWorld)))
    (xx_NoWorld : PySem.W.excIn K x_NoWorld [.type "ValueError", .type "Exception", .type "BaseException", .type "object"] "ValueError.__new__" = true)
    (xk_NoWorld : PySem.W.keepIn K (.ref x_NoWorld) = true)
    (xb_NoWorld : PySem.W.subIn K (.ref x_NoWorld) (.type "BaseException") = some true)
    (xt_NoWorld : PySem.W.typeIn K (.ref x_NoWorld) = some (.type "type"))
    (xg_NoBox : PySem.W.nsIn K mainGlobals "NoBox" = some (some (.ref x_NoBox)))
    (xx_NoBox : PySem.W.excIn K x_NoBox [.type "ValueError", .type "Exception", .type "BaseException", .type "object"] "ValueError.__new__" = true)
    (xk_NoBox : PySem.W.keepIn K (.ref x_NoBox) = true)
    (xb_NoBox : PySem.W.subIn K (.ref x_NoBox) (.type "BaseException") = some true)
    (xt_NoBox : PySem.W.typeIn K (.ref x_NoBox) = some (.type "type"))
    (ecn : PySem.W.specialIn K (.builtin "object.__class__") "__get__" = some (some (.builtin "getset_descriptor.__get__")))
    (ect : PySem.W.takesIn K (.builtin "object.__class__") = some true)
    (ehg_NoDesk : PySem.W.findIn K (.ref x_NoDesk) "__getattribute__" = some (some (.builtin "BaseException.__getattribute__")))
    (ehk_NoDesk : PySem.W.findIn K (.ref x_NoDesk) "__getattr__" = some none)
    (ehd_NoDesk : PySem.W.hasDictIn K x_NoDesk = true)
    (eha_NoDesk : PySem.W.findIn K (.ref x_NoDesk) "__class__" = some (some (.builtin "object.__class__")))
    (ehm_NoDesk : PySem.W.mroIn K x_NoDesk (.type "object") = some true)
    (e0_NoDesk : PySem.W.kitOne K (.ref x_NoDesk) (.ref x_NoDesk) = some true)
    (e1_NoDesk : PySem.W.kitOne K (.ref x_NoDesk) (.ref x_Stopped) = some false)
    (e2_NoDesk : PySem.W.kitOne K (.ref x_NoDesk) (.ref x_NoRoom) = some false)
    (e3_NoDesk : PySem.W.kitOne K (.ref x_NoDesk) (.ref x_NoCount) = some false)
    (e4_NoDesk : PySem.W.kitOne K (.ref x_NoDesk) (.ref x_NoWord) = some false)
    (e5_NoDesk : PySem.W.kitOne K (.ref x_NoDesk) (.ref x_Short) = some false)
    (e6_NoDesk : PySem.W.kitOne K (.ref x_NoDesk) (.ref x_NoNumber) = some false)
    (e7_NoDesk : PySem.W.kitOne K (.ref x_NoDesk) (.ref x_Twice) = some false)
    (e8_NoDesk : PySem.W.kitOne K (.ref x_NoDesk) (.ref x_NotThere) = some false)
    (eo_NoDesk : PySem.W.kitAny K (.ref x_NoDesk) [.ref x_NoBox, .ref x_NoOffice, .ref x_NoWorld] = some false)
    (ev_NoDesk : PySem.W.kitOne K (.ref x_NoDesk) (.type "ValueError") = some true)
    (eg_NoDesk : PySem.W.exmOne K (.ref x_NoDesk) (.ref x_GapError) = some true)
    (ehg_Stopped : PySem.W.findIn K (.ref x_Stopped) "__getattribute__" = some (some (.builtin "BaseException.__getattribute__")))
    (ehk_Stopped : PySem.W.findIn K (.ref x_Stopped) "__getattr__" = some none)
    (ehd_Stopped : PySem.W.hasDictIn K x_Stopped = true)
    (eha_Stopped : PySem.W.findIn K (.ref x_Stopped) "__class__" = some (some (.builtin "object.__class__")))
    (ehm_Stopped : PySem.W.mroIn K x_Stopped (.type "object") = some true)
    (e0_Stopped : PySem.W.kitOne K (.ref x_Stopped) (.ref x_NoDesk) = some false)
    (e1_Stopped : PySem.W.kitOne K (.ref x_Stopped) (.ref x_Stopped) = some true)
    (e2_Stopped : PySem.W.kitOne K (.ref x_Stopped) (.ref x_NoRoom) = some false)
    (e3_Stopped : PySem.W.kitOne K (.ref x_Stopped) (.ref x_NoCount) = some false)
    (e4_Stopped : PySem.W.kitOne K (.ref x_Stopped) (.ref x_NoWord) = some false)
    (e5_Stopped : PySem.W.kitOne K (.ref x_Stopped) (.ref x_Short) = some false)
    (e6_Stopped : PySem.W.kitOne K (.ref x_Stopped) (.ref x_NoNumber) = some false)
    (e7_Stopped : PySem.W.kitOne K (.ref x_Stopped) (.ref x_Twice) = some false)
    (e8_Stopped : PySem.W.kitOne K (.ref x_Stopped) (.ref x_NotThere) = some false)
    (eo_Stopped : PySem.W.kitAny K (.ref x_Stopped) [.ref x_NoBox, .ref x_NoOffice, .ref x_NoWorld] = some false)
    (ev_Stopped : PySem.W.kitOne K (.ref x_Stopped) (.type "ValueError") = some true)
    (eg_Stopped : PySem.W.exmOne K (.ref x_Stopped) (.ref x_GapError) = some true)
    (ehg_NoRoom : PySem.W.findIn K (.ref x_NoRoom) "__getattribute__" = some (some (.builtin "BaseException.__getattribute__")))
    (ehk_NoRoom : PySem.W.findIn K (.ref x_NoRoom) "__getattr__" = some none)
    (ehd_NoRoom : PySem.W.hasDictIn K x_NoRoom = true)
    (eha_NoRoom : PySem.W.findIn K (.ref x_NoRoom) "__class__" = some (some (.builtin "object.__class__")))
    (ehm_NoRoom : PySem.W.mroIn K x_NoRoom (.type "object") = some true)
    (e0_NoRoom : PySem.W.kitOne K (.ref x_NoRoom) (.ref x_NoDesk) = some false)
    (e1_NoRoom : PySem.W.kitOne K (.ref x_NoRoom) (.ref x_Stopped) = some false)
    (e2_NoRoom : PySem.W.kitOne K (.ref x_NoRoom) (.ref x_NoRoom) = some true)
    (e3_NoRoom : PySem.W.kitOne K (.ref x_NoRoom) (.ref x_NoCount) = some false)
    (e4_NoRoom : PySem.W.kitOne K (.ref x_NoRoom) (.ref x_NoWord) = some false)
    (e5_NoRoom : PySem.W.kitOne K (.ref x_NoRoom) (.ref x_Short) = some false)
    (e6_NoRoom : PySem.W.kitOne K (.ref x_NoRoom) (.ref x_NoNumber) = some false)
    (e7_NoRoom : PySem.W.kitOne K (.ref x_NoRoom) (.ref x_Twice) = some false)
    (e8_NoRoom : PySem.W.kitOne K (.ref x_NoRoom) (.ref x_NotThere) = some false)
    (eo_NoRoom : PySem.W.kitAny K (.ref x_NoRoom) [.ref x_NoBox, .ref x_NoOffice, .ref x_NoWorld] = some false)
    (ev_NoRoom : PySem.W.kitOne K (.ref x_NoRoom) (.type "ValueError") = some true)
    (eg_NoRoom : PySem.W.exmOne K (.ref x_NoRoom) (.ref x_GapError) = some true)
    (ehg_NoCount : PySem.W.findIn K (.ref x_NoCount) "__getattribute__" = some (some (.builtin "BaseException.__getattribute__")))
    (ehk_NoCount : PySem.W.findIn K (.ref x_NoCount) "__getattr__" = some none)
    (ehd_NoCount : PySem.W.hasDictIn K x_NoCount = true)
    (eha_NoCount : PySem.W.findIn K (.ref x_NoCount) "__class__" = some (some (.builtin "object.__class__")))
    (ehm_NoCount : PySem.W.mroIn K x_NoCount (.type "object") = some true)
    (e0_NoCount : PySem.W.kitOne K (.ref x_NoCount) (.ref x_NoDesk) = some false)
    (e1_NoCount : PySem.W.kitOne K (.ref x_NoCount) (.ref x_Stopped) = some false)
    (e2_NoCount : PySem.W.kitOne K (.ref x_NoCount) (.ref x_NoRoom) = some false)
    (e3_NoCount : PySem.W.kitOne K (.ref x_NoCount) (.ref x_NoCount) = some true)
    (e4_NoCount : PySem.W.kitOne K (.ref x_NoCount) (.ref x_NoWord) = some false)
    (e5_NoCount : PySem.W.kitOne K (.ref x_NoCount) (.ref x_Short) = some false)
    (e6_NoCount : PySem.W.kitOne K (.ref x_NoCount) (.ref x_NoNumber) = some false)
    (e7_NoCount : PySem.W.kitOne K (.ref x_NoCount) (.ref x_Twice) = some false)
    (e8_NoCount : PySem.W.kitOne K (.ref x_NoCount) (.ref x_NotThere) = some false)
    (eo_NoCount : PySem.W.kitAny K (.ref x_NoCount) [.ref x_NoBox, .ref x_NoOffice, .ref x_NoWorld] = some false)
    (ev_NoCount : PySem.W.kitOne K (.ref x_NoCount) (.type "ValueError") = some true)
    (eg_NoCount : PySem.W.exmOne K (.ref x_NoCount) (.ref x_GapError) = some true)
    (ehg_NoWord : PySem.W.findIn K (.ref x_NoWord) "__getattribute__" = some (some (.builtin "BaseException.__getattribute__")))
    (ehk_NoWord : PySem.W.findIn K (.ref x_NoWord) "__getattr__" = some none)
    (ehd_NoWord : PySem.W.hasDictIn K x_NoWord = true)
    (eha_NoWord : PySem.W.findIn K (.ref x_NoWord) "__class__" = some (some (.builtin "object.__class__")))
    (ehm_NoWord : PySem.W.mroIn K x_NoWord (.type "object") = some true)
    (e0_NoWord : PySem.W.kitOne K (.ref x_NoWord) (.ref x_NoDesk) = some false)
    (e1_NoWord : PySem.W.kitOne K (.ref x_NoWord) (.ref x_Stopped) = some false)
    (e2_NoWord : PySem.W.kitOne K (.ref x_NoWord) (.ref x_NoRoom) = some false)
    (e3_NoWord : PySem.W.kitOne K (.ref x_NoWord) (.ref x_NoCount) = some false)
    (e4_NoWord : PySem.W.kitOne K (.ref x_NoWord) (.ref x_NoWord) = some true)
    (e5_NoWord : PySem.W.kitOne K (.ref x_NoWord) (.ref x_Short) = some false)
    (e6_NoWord : PySem.W.kitOne K (.ref x_NoWord) (.ref x_NoNumber) = some false)
    (e7_NoWord : PySem.W.kitOne K (.ref x_NoWord) (.ref x_Twice) = some false)
    (e8_NoWord : PySem.W.kitOne K (.ref x_NoWord) (.ref x_NotThere) = some false)
    (eo_NoWord : PySem.W.kitAny K (.ref x_NoWord) [.ref x_NoBox, .ref x_NoOffice, .ref x_NoWorld] = some false)
    (ev_NoWord : PySem.W.kitOne K (.ref x_NoWord) (.type "ValueError") = some true)
    (eg_NoWord : PySem.W.exmOne K (.ref x_NoWord) (.ref x_GapError) = some true)
    (ehg_Short : PySem.W.findIn K (.ref x_Short) "__getattribute__" = some (some (.builtin "BaseException.__getattribute__")))
    (ehk_Short : PySem.W.findIn K (.ref x_Short) "__getattr__" = some none)
    (ehd_Short : PySem.W.hasDictIn K x_Short = true)
    (eha_Short : PySem.W.findIn K (.ref x_Short) "__class__" = some (some (.builtin "object.__class__")))
    (ehm_Short : PySem.W.mroIn K x_Short (.type "object") = some true)
    (e0_Short : PySem.W.kitOne K (.ref x_Short) (.ref x_NoDesk) = some false)
    (e1_Short : PySem.W.kitOne K (.ref x_Short) (.ref x_Stopped) = some false)
    (e2_Short : PySem.W.kitOne K (.ref x_Short) (.ref x_NoRoom) = some false)
    (e3_Short : PySem.W.kitOne K (.ref x_Short) (.ref x_NoCount) = some false)
    (e4_Short : PySem.W.kitOne K (.ref x_Short) (.ref x_NoWord) = some false)
    (e5_Short : PySem.W.kitOne K (.ref x_Short) (.ref x_Short) = some true)
    (e6_Short : PySem.W.kitOne K (.ref x_Short) (.ref x_NoNumber) = some false)
    (e7_Short : PySem.W.kitOne K (.ref x_Short) (.ref x_Twice) = some false)
    (e8_Short : PySem.W.kitOne K (.ref x_Short) (.ref x_NotThere) = some false)
    (eo_Short : PySem.W.kitAny K (.ref x_Short) [.ref x_NoBox, .ref x_NoOffice, .ref x_NoWorld] = some false)
    (ev_Short : PySem.W.kitOne K (.ref x_Short) (.type "ValueError") = some true)
    (eg_Short : PySem.W.exmOne K (.ref x_Short) (.ref x_GapError) = some true)
    (ehg_NoNumber : PySem.W.findIn K (.ref x_NoNumber) "__getattribute__" = some (some (.builtin "BaseException.__getattribute__")))
    (ehk_NoNumber : PySem.W.findIn K (.ref x_NoNumber) "__getattr__" = some none)
    (ehd_NoNumber : PySem.W.hasDictIn K x_NoNumber = true)
    (eha_NoNumber : PySem.W.findIn K (.ref x_NoNumber) "__class__" = some (some (.builtin "object.__class__")))
    (ehm_NoNumber : PySem.W.mroIn K x_NoNumber (.type "object") = some true)
    (e0_NoNumber : PySem.W.kitOne K (.ref x_NoNumber) (.ref x_NoDesk) = some false)
    (e1_NoNumber : PySem.W.kitOne K (.ref x_NoNumber) (.ref x_Stopped) = some false)
    (e2_NoNumber : PySem.W.kitOne K (.ref x_NoNumber) (.ref x_NoRoom) = some false)
    (e3_NoNumber : PySem.W.kitOne K (.ref x_NoNumber) (.ref x_NoCount) = some false)
    (e4_NoNumber : PySem.W.kitOne K (.ref x_NoNumber) (.ref x_NoWord) = some false)
    (e5_NoNumber : PySem.W.kitOne K (.ref x_NoNumber) (.ref x_Short) = some false)
    (e6_NoNumber : PySem.W.kitOne K (.ref x_NoNumber) (.ref x_NoNumber) = some true)
    (e7_NoNumber : PySem.W.kitOne K (.ref x_NoNumber) (.ref x_Twice) = some false)
    (e8_NoNumber : PySem.W.kitOne K (.ref x_NoNumber) (.ref x_NotThere) = some false)
    (eo_NoNumber : PySem.W.kitAny K (.ref x_NoNumber) [.ref x_NoBox, .ref x_NoOffice, .ref x_NoWorld] = some false)
    (ev_NoNumber : PySem.W.kitOne K (.ref x_NoNumber) (.type "ValueError") = some true)
    (eg_NoNumber : PySem.W.exmOne K (.ref x_NoNumber) (.ref x_GapError) = some true)
    (ehg_Twice : PySem.W.findIn K (.ref x_Twice) "__getattribute__" = some (some (.builtin "BaseException.__getattribute__")))
    (ehk_Twice : PySem.W.findIn K (.ref x_Twice) "__getattr__" = some none)
    (ehd_Twice : PySem.W.hasDictIn K x_Twice = true)
    (eha_Twice : PySem.W.findIn K (.ref x_Twice) "__class__" = some (some (.builtin "object.__class__")))
    (ehm_Twice : PySem.W.mroIn K x_Twice (.type "object") = some true)
    (e0_Twice : PySem.W.kitOne K (.ref x_Twice) (.ref x_NoDesk) = some false)
    (e1_Twice : PySem.W.kitOne K (.ref x_Twice) (.ref x_Stopped) = some false)
    (e2_Twice : PySem.W.kitOne K (.ref x_Twice) (.ref x_NoRoom) = some false)
    (e3_Twice : PySem.W.kitOne K (.ref x_Twice) (.ref x_NoCount) = some false)
    (e4_Twice : PySem.W.kitOne K (.ref x_Twice) (.ref x_NoWord) = some false)
    (e5_Twice : PySem.W.kitOne K (.ref x_Twice) (.ref x_Short) = some false)
    (e6_Twice : PySem.W.kitOne K (.ref x_Twice) (.ref x_NoNumber) = some false)
    (e7_Twice : PySem.W.kitOne K (.ref x_Twice) (.ref x_Twice) = some true)
    (e8_Twice : PySem.W.kitOne K (.ref x_Twice) (.ref x_NotThere) = some false)
    (eo_Twice : PySem.W.kitAny K (.ref x_Twice) [.ref x_NoBox, .ref x_NoOffice, .ref x_NoWorld] = some false)
    (ev_Twice : PySem.W.kitOne K (.ref x_Twice) (.type "ValueError") = some true)
    (eg_Twice : PySem.W.exmOne K (.ref x_Twice) (.ref x_GapError) = some true)
    (ehg_NotThere : PySem.W.findIn K (.ref x_NotThere) "__getattribute__" = some (some (.builtin "BaseException.__getattribute__")))
    (ehk_NotThere : PySem.W.findIn K (.ref x_NotThere) "__getattr__" = some none)
    (ehd_NotThere : PySem.W.hasDictIn K x_NotThere = true)
    (eha_NotThere : PySem.W.findIn K (.ref x_NotThere) "__class__" = some (some (.builtin "object.__class__")))
    (ehm_NotThere : PySem.W.mroIn K x_NotThere (.type "object") = some true)
    (e0_NotThere : PySem.W.kitOne K (.ref x_NotThere) (.ref x_NoDesk) = some false)
    (e1_NotThere : PySem.W.kitOne K (.ref x_NotThere) (.ref x_Stopped) = some false)
    (e2_NotThere : PySem.W.kitOne K (.ref x_NotThere) (.ref x_NoRoom) = some false)
    (e3_NotThere : PySem.W.kitOne K (.ref x_NotThere) (.ref x_NoCount) = some false)
    (e4_NotThere : PySem.W.kitOne K (.ref x_NotThere) (.ref x_NoWord) = some false)
    (e5_NotThere : PySem.W.kitOne K (.ref x_NotThere) (.ref x_Short) = some false)
    (e6_NotThere : PySem.W.kitOne K (.ref x_NotThere) (.ref x_NoNumber) = some false)
    (e7_NotThere : PySem.W.kitOne K (.ref x_NotThere) (.ref x_Twice) = some false)
    (e8_NotThere : PySem.W.kitOne K (.ref x_NotThere) (.ref x_NotThere) = some true)
    (eo_NotThere : PySem.W.kitAny K (.ref x_NotThere) [.ref x_NoBox, .ref x_NoOffice, .ref x_NoWorld] = some false)
    (ev_NotThere : PySem.W.kitOne K (.ref x_NotThere) (.type "ValueError") = some true)
    (eg_NotThere : PySem.W.exmOne K (.ref x_NotThere) (.ref x_GapError) = some true)
    (xm00 : PySem.W.exmOne K (.ref x_NoDesk) (.ref x_NoDesk) = some true)
    (xm01 : PySem.W.exmOne K (.ref x_NoDesk) (.ref x_Stopped) = some false)
    (xm02 : PySem.W.exmOne K (.ref x_NoDesk) (.ref x_NoRoom) = some false)
    (xm03 : PySem.W.exmOne K (.ref x_NoDesk) (.ref x_NoCount) = some false)
    (xm04 : PySem.W.exmOne K (.ref x_NoDesk) (.ref x_NoWord) = some false)
    (xm05 : PySem.W.exmOne K (.ref x_NoDesk) (.ref x_Short) = some false)
    (xm06 : PySem.W.exmOne K (.ref x_NoDesk) (.ref x_NoNumber) = some false)
    (xm07 : PySem.W.exmOne K (.ref x_NoDesk) (.ref x_Twice) = some false)
    (xm08 : PySem.W.exmOne K (.ref x_NoDesk) (.ref x_NotThere) = some false)
    (xm10 : PySem.W.exmOne K (.ref x_Stopped) (.ref x_NoDesk) = some false)
    (xm11 : PySem.W.exmOne K (.ref x_Stopped) (.ref x_Stopped) = some true)
    (xm12 : PySem.W.exmOne K (.ref x_Stopped) (.ref x_NoRoom) = some false)
    (xm13 : PySem.W.exmOne K (.ref x_Stopped) (.ref x_NoCount) = some false)
    (xm14 : PySem.W.exmOne K (.ref x_Stopped) (.ref x_NoWord) = some false)
    (xm15 : PySem.W.exmOne K (.ref x_Stopped) (.ref x_Short) = some false)
    (xm16 : PySem.W.exmOne K (.ref x_Stopped) (.ref x_NoNumber) = some false)
    (xm17 : PySem.W.exmOne K (.ref x_Stopped) (.ref x_Twice) = some false)
    (xm18 : PySem.W.exmOne K (.ref x_Stopped) (.ref x_NotThere) = some false)
    (xm20 : PySem.W.exmOne K (.ref x_NoRoom) (.ref x_NoDesk) = some false)
    (xm21 : PySem.W.exmOne K (.ref x_NoRoom) (.ref x_Stopped) = some false)
    (xm22 : PySem.W.exmOne K (.ref x_NoRoom) (.ref x_NoRoom) = some true)
    (xm23 : PySem.W.exmOne K (.ref x_NoRoom) (.ref x_NoCount) = some false)
    (xm24 : PySem.W.exmOne K (.ref x_NoRoom) (.ref x_NoWord) = some false)
    (xm25 : PySem.W.exmOne K (.ref x_NoRoom) (.ref x_Short) = some false)
    (xm26 : PySem.W.exmOne K (.ref x_NoRoom) (.ref x_NoNumber) = some false)
    (xm27 : PySem.W.exmOne K (.ref x_NoRoom) (.ref x_Twice) = some false)
    (xm28 : PySem.W.exmOne K (.ref x_NoRoom) (.ref x_NotThere) = some false)
    (xm30 : PySem.W.exmOne K (.ref x_NoCount) (.ref x_NoDesk) = some false)
    (xm31 : PySem.W.exmOne K (.ref x_NoCount) (.ref x_Stopped) = some false)
    (xm32 : PySem.W.exmOne K (.ref x_NoCount) (.ref x_NoRoom) = some false)
    (xm33 : PySem.W.exmOne K (.ref x_NoCount) (.ref x_NoCount) = some true)
    (xm34 : PySem.W.exmOne K (.ref x_NoCount) (.ref x_NoWord) = some false)
    (xm35 : PySem.W.exmOne K (.ref x_NoCount) (.ref x_Short) = some false)
    (xm36 : PySem.W.exmOne K (.ref x_NoCount) (.ref x_NoNumber) = some false)
    (xm37 : PySem.W.exmOne K (.ref x_NoCount) (.ref x_Twice) = some false)
    (xm38 : PySem.W.exmOne K (.ref x_NoCount) (.ref x_NotThere) = some false)
    (xm40 : PySem.W.exmOne K (.ref x_NoWord) (.ref x_NoDesk) = some false)
    (xm41 : PySem.W.exmOne K (.ref x_NoWord) (.ref x_Stopped) = some false)
    (xm42 : PySem.W.exmOne K (.ref x_NoWord) (.ref x_NoRoom) = some false)
    (xm43 : PySem.W.exmOne K (.ref x_NoWord) (.ref x_NoCount) = some false)
    (xm44 : PySem.W.exmOne K (.ref x_NoWord) (.ref x_NoWord) = some true)
    (xm45 : PySem.W.exmOne K (.ref x_NoWord) (.ref x_Short) = some false)
    (xm46 : PySem.W.exmOne K (.ref x_NoWord) (.ref x_NoNumber) = some false)
    (xm47 : PySem.W.exmOne K (.ref x_NoWord) (.ref x_Twice) = some false)
    (xm48 : PySem.W.exmOne K (.ref x_NoWord) (.ref x_NotThere) = some false)
    (xm50 : PySem.W.exmOne K (.ref x_Short) (.ref x_NoDesk) = some false)
    (xm51 : PySem.W.exmOne K (.ref x_Short) (.ref x_Stopped) = some false)
    (xm52 : PySem.W.exmOne K (.ref x_Short) (.ref x_NoRoom) = some false)
    (xm53 : PySem.W.exmOne K (.ref x_Short) (.ref x_NoCount) = some false)
    (xm54 : PySem.W.exmOne K (.ref x_Short) (.ref x_NoWord) = some false)
    (xm55 : PySem.W.exmOne K (.ref x_Short) (.ref x_Short) = some true)
    (xm56 : PySem.W.exmOne K (.ref x_Short) (.ref x_NoNumber) = some false)
    (xm57 : PySem.W.exmOne K (.ref x_Short) (.ref x_Twice) = some false)
    (xm58 : PySem.W.exmOne K (.ref x_Short) (.ref x_NotThere) = some false)
    (xm60 : PySem.W.exmOne K (.ref x_NoNumber) (.ref x_NoDesk) = some false)
    (xm61 : PySem.W.exmOne K (.ref x_NoNumber) (.ref x_Stopped) = some false)
    (xm62 : PySem.W.exmOne K (.ref x_NoNumber) (.ref x_NoRoom) = some false)
    (xm63 : PySem.W.exmOne K (.ref x_NoNumber) (.ref x_NoCount) = some false)
    (xm64 : PySem.W.exmOne K (.ref x_NoNumber) (.ref x_NoWord) = some false)
    (xm65 : PySem.W.exmOne K (.ref x_NoNumber) (.ref x_Short) = some false)
    (xm66 : PySem.W.exmOne K (.ref x_NoNumber) (.ref x_NoNumber) = some true)
    (xm67 : PySem.W.exmOne K (.ref x_NoNumber) (.ref x_Twice) = some false)
    (xm68 : PySem.W.exmOne K (.ref x_NoNumber) (.ref x_NotThere) = some false)
    (xm70 : PySem.W.exmOne K (.ref x_Twice) (.ref x_NoDesk) = some false)
    (xm71 : PySem.W.exmOne K (.ref x_Twice) (.ref x_Stopped) = some false)
    (xm72 : PySem.W.exmOne K (.ref x_Twice) (.ref x_NoRoom) = some false)
    (xm73 : PySem.W.exmOne K (.ref x_Twice) (.ref x_NoCount) = some false)
    (xm74 : PySem.W.exmOne K (.ref x_Twice) (.ref x_NoWord) = some false)
    (xm75 : PySem.W.exmOne K (.ref x_Twice) (.ref x_Short) = some false)
    (xm76 : PySem.W.exmOne K (.ref x_Twice) (.ref x_NoNumber) = some false)
    (xm77 : PySem.W.exmOne K (.ref x_Twice) (.ref x_Twice) = some true)
    (xm78 : PySem.W.exmOne K (.ref x_Twice) (.ref x_NotThere) = some false)
    (xm80 : PySem.W.exmOne K (.ref x_NotThere) (.ref x_NoDesk) = some false)
    (xm81 : PySem.W.exmOne K (.ref x_NotThere) (.ref x_Stopped) = some false)
    (xm82 : PySem.W.exmOne K (.ref x_NotThere) (.ref x_NoRoom) = some false)
    (xm83 : PySem.W.exmOne K (.ref x_NotThere) (.ref x_NoCount) = some false)
    (xm84 : PySem.W.exmOne K (.ref x_NotThere) (.ref x_NoWord) = some false)
    (xm85 : PySem.W.exmOne K (.ref x_NotThere) (.ref x_Short) = some false)
    (xm86 : PySem.W.exmOne K (.ref x_NotThere) (.ref x_NoNumber) = some false)
    (xm87 : PySem.W.exmOne K (.ref x_NotThere) (.ref x_Twice) = some false)
    (xm88 : PySem.W.exmOne K (.ref x_NotThere) (.ref x_NotThere) = some true)
    (ha_NUMBERS : PySem.W.nsIn K mainGlobals "NUMBERS" = some (some (.ref x_NUMBERS)))
    (hdl_NUMBERS : K.lookup x_NUMBERS = some ⟨.type "dict", none, .dict #[⟨nh1, .str "lend" nt1, .int 2 nu1⟩, ⟨nh2, .str "back" nt2, .int 1 nu2⟩, ⟨nh3, .str "stop" nt3, .int 1 nu3⟩, ⟨nh4, .str "found" nt4, .int 1 nu4⟩, ⟨nh5, .str "settle" nt5, .int 2 nu5⟩] nn, #[]⟩)
    (hkl_NUMBERS : PySem.W.KeysLit w.params [⟨nh1, .str "lend" nt1, .int 2 nu1⟩, ⟨nh2, .str "back" nt2, .int 1 nu2⟩, ⟨nh3, .str "stop" nt3, .int 1 nu3⟩, ⟨nh4, .str "found" nt4, .int 1 nu4⟩, ⟨nh5, .str "settle" nt5, .int 2 nu5⟩])
    (hlo_NUMBERS : (x_NUMBERS == sysModules) = false)
    (oca : PySem.W.findIn K (.ref C) "__class__" = some (some (.builtin "object.__class__")))
    (ocm : PySem.W.mroIn K C (.type "object") = some true)
    (oce : PySem.W.kitOne K (.ref C) (.ref C) = some true)
    (oxo : PySem.W.exmOne K (.ref x_NoOffice) (.ref x_NoOffice) = some true)
    : ∃ fd : FuncData, (∀ (s : Shared) (v : Value), BindsTo s fd ⟨[v], []⟩ [("_law_script", v)]) ∧ ∀ base : Heap, K.In base → base.Ns mainGlobals mg → FnOk l.prog w K mg base CX0 9 fa fd ["_law_script"] (spLaw K) := by
  have e := hfa.symm.trans (PySem.W.mg_of X G ha_law)
  cases e
  have F_Office_init := fun_mk (st := s_Office_init) hl_Office_init hd_Office_init hk_Office_init
  have F_Office_lend := fun_mk (st := s_Office_lend) hl_Office_lend hd_Office_lend hk_Office_lend
  have F_Office_report := fun_mk (st := s_Office_report) hl_Office_report hd_Office_report hk_Office_report
  have F_Office_back := fun_mk (st := s_Office_back) hl_Office_back hd_Office_back hk_Office_back
  have F_Office_stop := fun_mk (st := s_Office_stop) hl_Office_stop hd_Office_stop hk_Office_stop
  have F_Office_found := fun_mk (st := s_Office_found) hl_Office_found hd_Office_found hk_Office_found
  have F_Office_settle := fun_mk (st := s_Office_settle) hl_Office_settle hd_Office_settle hk_Office_settle
  have F_Office_open_numbers := fun_mk (st := s_Office_open_numbers) hl_Office_open_numbers hd_Office_open_numbers hk_Office_open_numbers
  have F_Office_rest := fun_mk (st := s_Office_rest) hl_Office_rest hd_Office_rest hk_Office_rest
  have F_Office_has_rest := fun_mk (st := s_Office_has_rest) hl_Office_has_rest hd_Office_has_rest hk_Office_has_rest
  have F_Office_least_used := fun_mk (st := s_Office_least_used) hl_Office_least_used hd_Office_least_used hk_Office_least_used
  have F_Office_numbers := fun_mk (st := s_Office_numbers) hl_Office_numbers hd_Office_numbers hk_Office_numbers
  have F_Office_state := fun_mk (st := s_Office_state) hl_Office_state hd_Office_state hk_Office_state
  have F_Office_holder := fun_mk (st := s_Office_holder) hl_Office_holder hd_Office_holder hk_Office_holder
  have F_Office__check_desk := fun_mk (st := s_Office__check_desk) hl_Office__check_desk hd_Office__check_desk hk_Office__check_desk
  have F_Office__check_going := fun_mk (st := s_Office__check_going) hl_Office__check_going hd_Office__check_going hk_Office__check_going
  have F_Office__first_of_free := fun_mk (st := s_Office__first_of_free) hl_Office__first_of_free hd_Office__first_of_free hk_Office__first_of_free
  have F_Office__let_go := fun_mk (st := s_Office__let_go) hl_Office__let_go hd_Office__let_go hk_Office__let_go
  have F_Office__use := fun_mk (st := s_Office__use) hl_Office__use hd_Office__use hk_Office__use
  have F_played := fun_mk (st := s_played) hl_played hd_played hk_played
  have F_answer := fun_mk (st := s_answer) hl_answer hd_answer hk_answer
  have F_done := fun_mk (st := s_done) hl_done hd_done hk_done
  have F_is_deed := fun_mk (st := s_is_deed) hl_is_deed hd_is_deed hk_is_deed
  have F_are_reported := fun_mk (st := s_are_reported) hl_are_reported hd_are_reported hk_are_reported
  have F_is_number := fun_mk (st := s_is_number) hl_is_number hd_is_number hk_is_number
  have F_state_of := fun_mk (st := s_state_of) hl_state_of hd_state_of hk_state_of
  have F_l_start := fun_mk (st := s_l_start) hl_l_start hd_l_start hk_l_start
  have F_l_drawn := fun_mk (st := s_l_drawn) hl_l_drawn hd_l_drawn hk_l_drawn
  have F_l_same := fun_mk (st := s_l_same) hl_l_same hd_l_same hk_l_same
  have F_l_office := fun_mk (st := s_l_office) hl_l_office hd_l_office hk_l_office
  have F_l_holder := fun_mk (st := s_l_holder) hl_l_holder hd_l_holder hk_l_holder
  have F_l_lent := fun_mk (st := s_l_lent) hl_l_lent hd_l_lent hk_l_lent
  have F_l_reported := fun_mk (st := s_l_reported) hl_l_reported hd_l_reported hk_l_reported
  have F_l_found := fun_mk (st := s_l_found) hl_l_found hd_l_found hk_l_found
  have F_l_settled := fun_mk (st := s_l_settled) hl_l_settled hd_l_settled hk_l_settled
  have F_l_due := fun_mk (st := s_l_due) hl_l_due hd_l_due hk_l_due
  have F_l_does := fun_mk (st := s_l_does) hl_l_does hd_l_does hk_l_does
  have F_l_told := fun_mk (st := s_l_told) hl_l_told hd_l_told hk_l_told
  have F_l_words := fun_mk (st := s_l_words) hl_l_words hd_l_words hk_l_words
  have F_l_deed := fun_mk (st := s_l_deed) hl_l_deed hd_l_deed hk_l_deed
  have F_l_is := fun_mk (st := s_l_is) hl_l_is hd_l_is hk_l_is
  have F_l_state := fun_mk (st := s_l_state) hl_l_state hd_l_state hk_l_state
  have F_l_text := fun_mk (st := s_l_text) hl_l_text hd_l_text hk_l_text
  have F_l_odd := fun_mk (st := s_l_odd) hl_l_odd hd_l_odd hk_l_odd
  have F_l_answer := fun_mk (st := s_l_answer) hl_l_answer hd_l_answer hk_l_answer
  have F_l_no_office := fun_mk (st := s_l_no_office) hl_l_no_office hd_l_no_office hk_l_no_office
  have F_law := fun_mk (st := s_law) hl_law hd_law hk_law
  let ad : Ad := { C := C, GapError := x_GapError, NoOffice := x_NoOffice, NoDesk := x_NoDesk, Stopped := x_Stopped, NoRoom := x_NoRoom, NoCount := x_NoCount, NoWord := x_NoWord, Short := x_Short, NoNumber := x_NoNumber, Twice := x_Twice, NotThere := x_NotThere, NoWorld := x_NoWorld, NoBox := x_NoBox, Office_init := f_Office_init, Office_lend := f_Office_lend, Office_report := f_Office_report, Office_back := f_Office_back, Office_stop := f_Office_stop, Office_found := f_Office_found, Office_settle := f_Office_settle, Office_open_numbers := f_Office_open_numbers, Office_rest := f_Office_rest, Office_has_rest := f_Office_has_rest, Office_least_used := f_Office_least_used, Office_numbers := f_Office_numbers, Office_state := f_Office_state, Office_holder := f_Office_holder, Office__check_desk := f_Office__check_desk, Office__check_going := f_Office__check_going, Office__first_of_free := f_Office__first_of_free, Office__let_go := f_Office__let_go, Office__use := f_Office__use, played := f_played, answer := f_answer, done := f_done, is_deed := f_is_deed, are_reported := f_are_reported, is_number := f_is_number, state_of := f_state_of, l_start := f_l_start, l_drawn := f_l_drawn, l_same := f_l_same, l_office := f_l_office, l_holder := f_l_holder, l_lent := f_l_lent, l_reported := f_l_reported, l_found := f_l_found, l_settled := f_l_settled, l_due := f_l_due, l_does := f_l_does, l_told := f_l_told, l_words := f_l_words, l_deed := f_l_deed, l_is := f_l_is, l_state := f_l_state, l_text := f_l_text, l_odd := f_l_odd, l_answer := f_l_answer, l_no_office := f_l_no_office, law := fa, NUMBERS := x_NUMBERS }
  let fd : Fd := { Office_init := PySem.W.fnOf "__init__" "Office.__init__" (defArgs s_Office_init) (defBody s_Office_init) (defScope s_Office_init) .none kV_Office_init dc_Office_init pm_Office_init an_Office_init cd_Office_init ct_Office_init, Office_lend := PySem.W.fnOf "lend" "Office.lend" (defArgs s_Office_lend) (defBody s_Office_lend) (defScope s_Office_lend) .none kV_Office_lend dc_Office_lend pm_Office_lend an_Office_lend cd_Office_lend ct_Office_lend, Office_report := PySem.W.fnOf "report" "Office.report" (defArgs s_Office_report) (defBody s_Office_report) (defScope s_Office_report) .none kV_Office_report dc_Office_report pm_Office_report an_Office_report cd_Office_report ct_Office_report, Office_back := PySem.W.fnOf "back" "Office.back" (defArgs s_Office_back) (defBody s_Office_back) (defScope s_Office_back) .none kV_Office_back dc_Office_back pm_Office_back an_Office_back cd_Office_back ct_Office_back, Office_stop := PySem.W.fnOf "stop" "Office.stop" (defArgs s_Office_stop) (defBody s_Office_stop) (defScope s_Office_stop) .none kV_Office_stop dc_Office_stop pm_Office_stop an_Office_stop cd_Office_stop ct_Office_stop, Office_found := PySem.W.fnOf "found" "Office.found" (defArgs s_Office_found) (defBody s_Office_found) (defScope s_Office_found) .none kV_Office_found dc_Office_found pm_Office_found an_Office_found cd_Office_found ct_Office_found, Office_settle := PySem.W.fnOf "settle" "Office.settle" (defArgs s_Office_settle) (defBody s_Office_settle) (defScope s_Office_settle) .none kV_Office_settle dc_Office_settle pm_Office_settle an_Office_settle cd_Office_settle ct_Office_settle, Office_open_numbers := PySem.W.fnOf "open_numbers" "Office.open_numbers" (defArgs s_Office_open_numbers) (defBody s_Office_open_numbers) (defScope s_Office_open_numbers) .none kV_Office_open_numbers dc_Office_open_numbers pm_Office_open_numbers an_Office_open_numbers cd_Office_open_numbers ct_Office_open_numbers, Office_rest := PySem.W.fnOf "rest" "Office.rest" (defArgs s_Office_rest) (defBody s_Office_rest) (defScope s_Office_rest) .none kV_Office_rest dc_Office_rest pm_Office_rest an_Office_rest cd_Office_rest ct_Office_rest, Office_has_rest := PySem.W.fnOf "has_rest" "Office.has_rest" (defArgs s_Office_has_rest) (defBody s_Office_has_rest) (defScope s_Office_has_rest) .none kV_Office_has_rest dc_Office_has_rest pm_Office_has_rest an_Office_has_rest cd_Office_has_rest ct_Office_has_rest, Office_least_used := PySem.W.fnOf "least_used" "Office.least_used" (defArgs s_Office_least_used) (defBody s_Office_least_used) (defScope s_Office_least_used) .none kV_Office_least_used dc_Office_least_used pm_Office_least_used an_Office_least_used cd_Office_least_used ct_Office_least_used, Office_numbers := PySem.W.fnOf "numbers" "Office.numbers" (defArgs s_Office_numbers) (defBody s_Office_numbers) (defScope s_Office_numbers) .none kV_Office_numbers dc_Office_numbers pm_Office_numbers an_Office_numbers cd_Office_numbers ct_Office_numbers, Office_state := PySem.W.fnOf "state" "Office.state" (defArgs s_Office_state) (defBody s_Office_state) (defScope s_Office_state) .none kV_Office_state dc_Office_state pm_Office_state an_Office_state cd_Office_state ct_Office_state, Office_holder := PySem.W.fnOf "holder" "Office.holder" (defArgs s_Office_holder) (defBody s_Office_holder) (defScope s_Office_holder) .none kV_Office_holder dc_Office_holder pm_Office_holder an_Office_holder cd_Office_holder ct_Office_holder, Office__check_desk := PySem.W.fnOf "_check_desk" "Office._check_desk" (defArgs s_Office__check_desk) (defBody s_Office__check_desk) (defScope s_Office__check_desk) .none kV_Office__check_desk dc_Office__check_desk pm_Office__check_desk an_Office__check_desk cd_Office__check_desk ct_Office__check_desk, Office__check_going := PySem.W.fnOf "_check_going" "Office._check_going" (defArgs s_Office__check_going) (defBody s_Office__check_going) (defScope s_Office__check_going) .none kV_Office__check_going dc_Office__check_going pm_Office__check_going an_Office__check_going cd_Office__check_going ct_Office__check_going, Office__first_of_free := PySem.W.fnOf "_first_of_free" "Office._first_of_free" (defArgs s_Office__first_of_free) (defBody s_Office__first_of_free) (defScope s_Office__first_of_free) .none kV_Office__first_of_free dc_Office__first_of_free pm_Office__first_of_free an_Office__first_of_free cd_Office__first_of_free ct_Office__first_of_free, Office__let_go := PySem.W.fnOf "_let_go" "Office._let_go" (defArgs s_Office__let_go) (defBody s_Office__let_go) (defScope s_Office__let_go) .none kV_Office__let_go dc_Office__let_go pm_Office__let_go an_Office__let_go cd_Office__let_go ct_Office__let_go, Office__use := PySem.W.fnOf "_use" "Office._use" (defArgs s_Office__use) (defBody s_Office__use) (defScope s_Office__use) .none kV_Office__use dc_Office__use pm_Office__use an_Office__use cd_Office__use ct_Office__use, played := PySem.W.fnOf "played" "played" (defArgs s_played) (defBody s_played) (defScope s_played) .none kV_played dc_played pm_played an_played cd_played ct_played, answer := PySem.W.fnOf "_answer" "_answer" (defArgs s_answer) (defBody s_answer) (defScope s_answer) .none kV_answer dc_answer pm_answer an_answer cd_answer ct_answer, done := PySem.W.fnOf "_done" "_done" (defArgs s_done) (defBody s_done) (defScope s_done) .none kV_done dc_done pm_done an_done cd_done ct_done, is_deed := PySem.W.fnOf "_is_deed" "_is_deed" (defArgs s_is_deed) (defBody s_is_deed) (defScope s_is_deed) .none kV_is_deed dc_is_deed pm_is_deed an_is_deed cd_is_deed ct_is_deed, are_reported := PySem.W.fnOf "_are_reported" "_are_reported" (defArgs s_are_reported) (defBody s_are_reported) (defScope s_are_reported) .none kV_are_reported dc_are_reported pm_are_reported an_are_reported cd_are_reported ct_are_reported, is_number := PySem.W.fnOf "_is_number" "_is_number" (defArgs s_is_number) (defBody s_is_number) (defScope s_is_number) .none kV_is_number dc_is_number pm_is_number an_is_number cd_is_number ct_is_number, state_of := PySem.W.fnOf "state_of" "state_of" (defArgs s_state_of) (defBody s_state_of) (defScope s_state_of) .none kV_state_of dc_state_of pm_state_of an_state_of cd_state_of ct_state_of, l_start := PySem.W.fnOf "_law_start" "_law_start" (defArgs s_l_start) (defBody s_l_start) (defScope s_l_start) .none kV_l_start dc_l_start pm_l_start an_l_start cd_l_start ct_l_start, l_drawn := PySem.W.fnOf "_law_drawn" "_law_drawn" (defArgs s_l_drawn) (defBody s_l_drawn) (defScope s_l_drawn) .none kV_l_drawn dc_l_drawn pm_l_drawn an_l_drawn cd_l_drawn ct_l_drawn, l_same := PySem.W.fnOf "_law_same" "_law_same" (defArgs s_l_same) (defBody s_l_same) (defScope s_l_same) .none kV_l_same dc_l_same pm_l_same an_l_same cd_l_same ct_l_same, l_office := PySem.W.fnOf "_law_office" "_law_office" (defArgs s_l_office) (defBody s_l_office) (defScope s_l_office) .none kV_l_office dc_l_office pm_l_office an_l_office cd_l_office ct_l_office, l_holder := PySem.W.fnOf "_law_holder" "_law_holder" (defArgs s_l_holder) (defBody s_l_holder) (defScope s_l_holder) .none kV_l_holder dc_l_holder pm_l_holder an_l_holder cd_l_holder ct_l_holder, l_lent := PySem.W.fnOf "_law_lent" "_law_lent" (defArgs s_l_lent) (defBody s_l_lent) (defScope s_l_lent) .none kV_l_lent dc_l_lent pm_l_lent an_l_lent cd_l_lent ct_l_lent, l_reported := PySem.W.fnOf "_law_reported" "_law_reported" (defArgs s_l_reported) (defBody s_l_reported) (defScope s_l_reported) .none kV_l_reported dc_l_reported pm_l_reported an_l_reported cd_l_reported ct_l_reported, l_found := PySem.W.fnOf "_law_found" "_law_found" (defArgs s_l_found) (defBody s_l_found) (defScope s_l_found) .none kV_l_found dc_l_found pm_l_found an_l_found cd_l_found ct_l_found, l_settled := PySem.W.fnOf "_law_settled" "_law_settled" (defArgs s_l_settled) (defBody s_l_settled) (defScope s_l_settled) .none kV_l_settled dc_l_settled pm_l_settled an_l_settled cd_l_settled ct_l_settled, l_due := PySem.W.fnOf "_law_due" "_law_due" (defArgs s_l_due) (defBody s_l_due) (defScope s_l_due) .none kV_l_due dc_l_due pm_l_due an_l_due cd_l_due ct_l_due, l_does := PySem.W.fnOf "_law_does" "_law_does" (defArgs s_l_does) (defBody s_l_does) (defScope s_l_does) .none kV_l_does dc_l_does pm_l_does an_l_does cd_l_does ct_l_does, l_told := PySem.W.fnOf "_law_told" "_law_told" (defArgs s_l_told) (defBody s_l_told) (defScope s_l_told) .none kV_l_told dc_l_told pm_l_told an_l_told cd_l_told ct_l_told, l_words := PySem.W.fnOf "_law_words" "_law_words" (defArgs s_l_words) (defBody s_l_words) (defScope s_l_words) .none kV_l_words dc_l_words pm_l_words an_l_words cd_l_words ct_l_words, l_deed := PySem.W.fnOf "_law_deed" "_law_deed" (defArgs s_l_deed) (defBody s_l_deed) (defScope s_l_deed) .none kV_l_deed dc_l_deed pm_l_deed an_l_deed cd_l_deed ct_l_deed, l_is := PySem.W.fnOf "_law_is" "_law_is" (defArgs s_l_is) (defBody s_l_is) (defScope s_l_is) .none kV_l_is dc_l_is pm_l_is an_l_is cd_l_is ct_l_is, l_state := PySem.W.fnOf "_law_state" "_law_state" (defArgs s_l_state) (defBody s_l_state) (defScope s_l_state) .none kV_l_state dc_l_state pm_l_state an_l_state cd_l_state ct_l_state, l_text := PySem.W.fnOf "_law_text" "_law_text" (defArgs s_l_text) (defBody s_l_text) (defScope s_l_text) .none kV_l_text dc_l_text pm_l_text an_l_text cd_l_text ct_l_text, l_odd := PySem.W.fnOf "_law_odd" "_law_odd" (defArgs s_l_odd) (defBody s_l_odd) (defScope s_l_odd) .none kV_l_odd dc_l_odd pm_l_odd an_l_odd cd_l_odd ct_l_odd, l_answer := PySem.W.fnOf "_law_answer" "_law_answer" (defArgs s_l_answer) (defBody s_l_answer) (defScope s_l_answer) .none kV_l_answer dc_l_answer pm_l_answer an_l_answer cd_l_answer ct_l_answer, l_no_office := PySem.W.fnOf "_law_no_office" "_law_no_office" (defArgs s_l_no_office) (defBody s_l_no_office) (defScope s_l_no_office) .none kV_l_no_office dc_l_no_office pm_l_no_office an_l_no_office cd_l_no_office ct_l_no_office, law := PySem.W.fnOf "law" "law" (defArgs s_law) (defBody s_law) (defScope s_law) .none kV_law dc_law pm_law an_law cd_law ct_law }
  have T : Txt K mg ad fd := {
    cl := ⟨pg, hd, po, sa⟩,
    na_states := hna_states,
    na_holders := hna_holders,
    na_stages := hna_stages,
    na_lent := hna_lent,
    g_Office := PySem.W.mg_of X G hC,
    mkO := ⟨mk, ha_Office_init, hi_Office_init, kc⟩,
    n_ValueError := PySem.W.mg_none_of X G hn_ValueError,
    n_all := PySem.W.mg_none_of X G hn_all,
    n_bool := PySem.W.mg_none_of X G hn_bool,
    n_dict := PySem.W.mg_none_of X G hn_dict,
    n_int := PySem.W.mg_none_of X G hn_int,
    n_isinstance := PySem.W.mg_none_of X G hn_isinstance,
    n_len := PySem.W.mg_none_of X G hn_len,
    n_list := PySem.W.mg_none_of X G hn_list,
    n_max := PySem.W.mg_none_of X G hn_max,
    n_range := PySem.W.mg_none_of X G hn_range,
    n_sorted := PySem.W.mg_none_of X G hn_sorted,
    n_str := PySem.W.mg_none_of X G hn_str,
    n_tuple := PySem.W.mg_none_of X G hn_tuple,
    n_zip := PySem.W.mg_none_of X G hn_zip,
    g_MOST_NUMBERS := ⟨_, PySem.W.mg_of X G hc_MOST_NUMBERS⟩,
    g_MOST_DESKS := ⟨_, PySem.W.mg_of X G hc_MOST_DESKS⟩,
    g_FREE := ⟨_, PySem.W.mg_of X G hc_FREE⟩,
    g_OPEN := ⟨_, PySem.W.mg_of X G hc_OPEN⟩,
    g_PAPER := ⟨_, PySem.W.mg_of X G hc_PAPER⟩,
    g_SPOILT := ⟨_, PySem.W.mg_of X G hc_SPOILT⟩,
    g_USED := ⟨_, PySem.W.mg_of X G hc_USED⟩,
    g_REST := ⟨_, PySem.W.mg_of X G hc_REST⟩,
    g_GOING := ⟨_, PySem.W.mg_of X G hc_GOING⟩,
    g_STOPPED := ⟨_, PySem.W.mg_of X G hc_STOPPED⟩,
    g_SETTLED := ⟨_, PySem.W.mg_of X G hc_SETTLED⟩,
    g_BAD_ROW := ⟨_, PySem.W.mg_of X G hc_BAD_ROW⟩,
    g_DONE := ⟨_, PySem.W.mg_of X G hc_DONE⟩,
    g_MOST_FIGURES := ⟨_, PySem.W.mg_of X G hc_MOST_FIGURES⟩,
    g_FIGURES := ⟨_, PySem.W.mg_of X G hc_FIGURES⟩,
    g_REPORT := ⟨_, PySem.W.mg_of X G hc_REPORT⟩,
    g_NUMBERS := PySem.W.mg_of X G ha_NUMBERS,
    x_GapError := ⟨xx_GapError, PySem.W.mg_of X G xg_GapError, xk_GapError, xb_GapError, xt_GapError⟩,
    x_NoOffice := ⟨xx_NoOffice, PySem.W.mg_of X G xg_NoOffice, xk_NoOffice, xb_NoOffice, xt_NoOffice⟩,
    x_NoDesk := ⟨xx_NoDesk, PySem.W.mg_of X G xg_NoDesk, xk_NoDesk, xb_NoDesk, xt_NoDesk⟩,
    x_Stopped := ⟨xx_Stopped, PySem.W.mg_of X G xg_Stopped, xk_Stopped, xb_Stopped, xt_Stopped⟩,
    x_NoRoom := ⟨xx_NoRoom, PySem.W.mg_of X G xg_NoRoom, xk_NoRoom, xb_NoRoom, xt_NoRoom⟩,
    x_NoCount := ⟨xx_NoCount, PySem.W.mg_of X G xg_NoCount, xk_NoCount, xb_NoCount, xt_NoCount⟩,
    x_NoWord := ⟨xx_NoWord, PySem.W.mg_of X G xg_NoWord, xk_NoWord, xb_NoWord, xt_NoWord⟩,
    x_Short := ⟨xx_Short, PySem.W.mg_of X G xg_Short, xk_Short, xb_Short, xt_Short⟩,
    x_NoNumber := ⟨xx_NoNumber, PySem.W.mg_of X G xg_NoNumber, xk_NoNumber, xb_NoNumber, xt_NoNumber⟩,
    x_Twice := ⟨xx_Twice, PySem.W.mg_of X G xg_Twice, xk_Twice, xb_Twice, xt_Twice⟩,
    x_NotThere := ⟨xx_NotThere, PySem.W.mg_of X G xg_NotThere, xk_NotThere, xb_NotThere, xt_NotThere⟩,
    x_NoWorld := ⟨xx_NoWorld, PySem.W.mg_of X G xg_NoWorld, xk_NoWorld, xb_NoWorld, xt_NoWorld⟩,
    x_NoBox := ⟨xx_NoBox, PySem.W.mg_of X G xg_NoBox, xk_NoBox, xb_NoBox, xt_NoBox⟩,
    F_Office_init := F_Office_init,
    b_Office_init := F_Office_init.binds (ps := ["self", "top", "desks"]) fun _ _ _ _ _ _ us hl => match us, hl with | [_, _, _], _ => rfl,
    F_Office_lend := F_Office_lend,
    b_Office_lend := F_Office_lend.binds (ps := ["self", "desk", "many"]) fun _ _ _ _ _ _ us hl => match us, hl with | [_, _, _], _ => rfl,
    m_Office_lend := ⟨ha_Office_lend, hi_Office_lend, hk_Office_lend⟩,
    F_Office_report := F_Office_report,
    b_Office_report := F_Office_report.binds (ps := ["self", "desk", "words"]) fun _ _ _ _ _ _ us hl => match us, hl with | [_, _, _], _ => rfl,
    m_Office_report := ⟨ha_Office_report, hi_Office_report, hk_Office_report⟩,
    F_Office_back := F_Office_back,
    b_Office_back := F_Office_back.binds (ps := ["self", "desk"]) fun _ _ _ _ _ _ us hl => match us, hl with | [_, _], _ => rfl,
    m_Office_back := ⟨ha_Office_back, hi_Office_back, hk_Office_back⟩,
    F_Office_stop := F_Office_stop,
    b_Office_stop := F_Office_stop.binds (ps := ["self", "desk"]) fun _ _ _ _ _ _ us hl => match us, hl with | [_, _], _ => rfl,
    m_Office_stop := ⟨ha_Office_stop, hi_Office_stop, hk_Office_stop⟩,
    F_Office_found := F_Office_found,
    b_Office_found := F_Office_found.binds (ps := ["self", "number"]) fun _ _ _ _ _ _ us hl => match us, hl with | [_, _], _ => rfl,
    m_Office_found := ⟨ha_Office_found, hi_Office_found, hk_Office_found⟩,
    F_Office_settle := F_Office_settle,
    b_Office_settle := F_Office_settle.binds (ps := ["self", "desk", "many"]) fun _ _ _ _ _ _ us hl => match us, hl with | [_, _, _], _ => rfl,
    m_Office_settle := ⟨ha_Office_settle, hi_Office_settle, hk_Office_settle⟩,
    F_Office_open_numbers := F_Office_open_numbers,
    b_Office_open_numbers := F_Office_open_numbers.binds (ps := ["self", "desk"]) fun _ _ _ _ _ _ us hl => match us, hl with | [_, _], _ => rfl,
    m_Office_open_numbers := ⟨ha_Office_open_numbers, hi_Office_open_numbers, hk_Office_open_numbers⟩,
    F_Office_rest := F_Office_rest,
    b_Office_rest := F_Office_rest.binds (ps := ["self", "desk"]) fun _ _ _ _ _ _ us hl => match us, hl with | [_, _], _ => rfl,
    m_Office_rest := ⟨ha_Office_rest, hi_Office_rest, hk_Office_rest⟩,
    F_Office_has_rest := F_Office_has_rest,
    b_Office_has_rest := F_Office_has_rest.binds (ps := ["self", "desk"]) fun _ _ _ _ _ _ us hl => match us, hl with | [_, _], _ => rfl,
    m_Office_has_rest := ⟨ha_Office_has_rest, hi_Office_has_rest, hk_Office_has_rest⟩,
    F_Office_least_used := F_Office_least_used,
    b_Office_least_used := F_Office_least_used.binds (ps := ["self", "desk"]) fun _ _ _ _ _ _ us hl => match us, hl with | [_, _], _ => rfl,
    m_Office_least_used := ⟨ha_Office_least_used, hi_Office_least_used, hk_Office_least_used⟩,
    F_Office_numbers := F_Office_numbers,
    b_Office_numbers := F_Office_numbers.binds (ps := ["self"]) fun _ _ _ _ _ _ us hl => match us, hl with | [_], _ => rfl,
    m_Office_numbers := ⟨ha_Office_numbers, hi_Office_numbers, hk_Office_numbers⟩,
    F_Office_state := F_Office_state,
    b_Office_state := F_Office_state.binds (ps := ["self", "number"]) fun _ _ _ _ _ _ us hl => match us, hl with | [_, _], _ => rfl,
    m_Office_state := ⟨ha_Office_state, hi_Office_state, hk_Office_state⟩,
    F_Office_holder := F_Office_holder,
    b_Office_holder := F_Office_holder.binds (ps := ["self", "number"]) fun _ _ _ _ _ _ us hl => match us, hl with | [_, _], _ => rfl,
    m_Office_holder := ⟨ha_Office_holder, hi_Office_holder, hk_Office_holder⟩,
    F_Office__check_desk := F_Office__check_desk,
    b_Office__check_desk := F_Office__check_desk.binds (ps := ["self", "desk"]) fun _ _ _ _ _ _ us hl => match us, hl with | [_, _], _ => rfl,
    m_Office__check_desk := ⟨ha_Office__check_desk, hi_Office__check_desk, hk_Office__check_desk⟩,
    F_Office__check_going := F_Office__check_going,
    b_Office__check_going := F_Office__check_going.binds (ps := ["self", "desk"]) fun _ _ _ _ _ _ us hl => match us, hl with | [_, _], _ => rfl,
    m_Office__check_going := ⟨ha_Office__check_going, hi_Office__check_going, hk_Office__check_going⟩,
    F_Office__first_of_free := F_Office__first_of_free,
    b_Office__first_of_free := F_Office__first_of_free.binds (ps := ["self", "many"]) fun _ _ _ _ _ _ us hl => match us, hl with | [_, _], _ => rfl,
    m_Office__first_of_free := ⟨ha_Office__first_of_free, hi_Office__first_of_free, hk_Office__first_of_free⟩,
    F_Office__let_go := F_Office__let_go,
    b_Office__let_go := F_Office__let_go.binds (ps := ["self", "number", "state"]) fun _ _ _ _ _ _ us hl => match us, hl with | [_, _, _], _ => rfl,
    m_Office__let_go := ⟨ha_Office__let_go, hi_Office__let_go, hk_Office__let_go⟩,
    F_Office__use := F_Office__use,
    b_Office__use := F_Office__use.binds (ps := ["self", "numbers"]) fun _ _ _ _ _ _ us hl => match us, hl with | [_, _], _ => rfl,
    m_Office__use := ⟨ha_Office__use, hi_Office__use, hk_Office__use⟩,
    F_played := F_played,
    b_played := F_played.binds (ps := ["top", "desks", "book"]) fun _ _ _ _ _ _ us hl => match us, hl with | [_, _, _], _ => rfl,
    g_played := PySem.W.mg_of X G ha_played,
    F_answer := F_answer,
    b_answer := F_answer.binds (ps := ["office", "words"]) fun _ _ _ _ _ _ us hl => match us, hl with | [_, _], _ => rfl,
    g_answer := PySem.W.mg_of X G ha_answer,
    F_done := F_done,
    b_done := F_done.binds (ps := ["office", "words"]) fun _ _ _ _ _ _ us hl => match us, hl with | [_, _], _ => rfl,
    g_done := PySem.W.mg_of X G ha_done,
    F_is_deed := F_is_deed,
    b_is_deed := F_is_deed.binds (ps := ["words"]) fun _ _ _ _ _ _ us hl => match us, hl with | [_], _ => rfl,
    g_is_deed := PySem.W.mg_of X G ha_is_deed,
    F_are_reported := F_are_reported,
    b_are_reported := F_are_reported.binds (ps := ["words"]) fun _ _ _ _ _ _ us hl => match us, hl with | [_], _ => rfl,
    g_are_reported := PySem.W.mg_of X G ha_are_reported,
    F_is_number := F_is_number,
    b_is_number := F_is_number.binds (ps := ["word"]) fun _ _ _ _ _ _ us hl => match us, hl with | [_], _ => rfl,
    g_is_number := PySem.W.mg_of X G ha_is_number,
    F_state_of := F_state_of,
    b_state_of := F_state_of.binds (ps := ["office", "number"]) fun _ _ _ _ _ _ us hl => match us, hl with | [_, _], _ => rfl,
    g_state_of := PySem.W.mg_of X G ha_state_of,
    F_l_start := F_l_start,
    b_l_start := F_l_start.binds (ps := ["_law_script"]) fun _ _ _ _ _ _ us hl => match us, hl with | [_], _ => rfl,
    g_l_start := PySem.W.mg_of X G ha_l_start,
    F_l_drawn := F_l_drawn,
    b_l_drawn := F_l_drawn.binds (ps := ["_law_state_here", "_law_many"]) fun _ _ _ _ _ _ us hl => match us, hl with | [_, _], _ => rfl,
    g_l_drawn := PySem.W.mg_of X G ha_l_drawn,
    F_l_same := F_l_same,
    b_l_same := F_l_same.binds (ps := ["_law_found_here", "_law_due_here"]) fun _ _ _ _ _ _ us hl => match us, hl with | [_, _], _ => rfl,
    g_l_same := PySem.W.mg_of X G ha_l_same,
    F_l_office := F_l_office,
    b_l_office := F_l_office.binds (ps := ["_law_top", "_law_desks"]) fun _ _ _ _ _ _ us hl => match us, hl with | [_, _], _ => rfl,
    g_l_office := PySem.W.mg_of X G ha_l_office,
    F_l_holder := F_l_holder,
    b_l_holder := F_l_holder.binds (ps := ["_law_m", "_law_number"]) fun _ _ _ _ _ _ us hl => match us, hl with | [_, _], _ => rfl,
    g_l_holder := PySem.W.mg_of X G ha_l_holder,
    F_l_lent := F_l_lent,
    b_l_lent := F_l_lent.binds (ps := ["_law_m", "_law_desk", "_law_many"]) fun _ _ _ _ _ _ us hl => match us, hl with | [_, _, _], _ => rfl,
    g_l_lent := PySem.W.mg_of X G ha_l_lent,
    F_l_reported := F_l_reported,
    b_l_reported := F_l_reported.binds (ps := ["_law_m", "_law_desk", "_law_words_here"]) fun _ _ _ _ _ _ us hl => match us, hl with | [_, _, _], _ => rfl,
    g_l_reported := PySem.W.mg_of X G ha_l_reported,
    F_l_found := F_l_found,
    b_l_found := F_l_found.binds (ps := ["_law_m", "_law_number"]) fun _ _ _ _ _ _ us hl => match us, hl with | [_, _], _ => rfl,
    g_l_found := PySem.W.mg_of X G ha_l_found,
    F_l_settled := F_l_settled,
    b_l_settled := F_l_settled.binds (ps := ["_law_m", "_law_desk", "_law_many"]) fun _ _ _ _ _ _ us hl => match us, hl with | [_, _, _], _ => rfl,
    g_l_settled := PySem.W.mg_of X G ha_l_settled,
    F_l_due := F_l_due,
    b_l_due := F_l_due.binds (ps := ["_law_m", "_law_deed_here"]) fun _ _ _ _ _ _ us hl => match us, hl with | [_, _], _ => rfl,
    g_l_due := PySem.W.mg_of X G ha_l_due,
    F_l_does := F_l_does,
    b_l_does := F_l_does.binds (ps := ["_law_office_here", "_law_deed_here"]) fun _ _ _ _ _ _ us hl => match us, hl with | [_, _], _ => rfl,
    g_l_does := PySem.W.mg_of X G ha_l_does,
    F_l_told := F_l_told,
    b_l_told := F_l_told.binds (ps := ["_law_office_here", "_law_deed_here"]) fun _ _ _ _ _ _ us hl => match us, hl with | [_, _], _ => rfl,
    g_l_told := PySem.W.mg_of X G ha_l_told,
    F_l_words := F_l_words,
    b_l_words := F_l_words.binds (ps := ["_law_state_here", "_law_many"]) fun _ _ _ _ _ _ us hl => match us, hl with | [_, _], _ => rfl,
    g_l_words := PySem.W.mg_of X G ha_l_words,
    F_l_deed := F_l_deed,
    b_l_deed := F_l_deed.binds (ps := ["_law_state_here", "_law_m", "_law_wide"]) fun _ _ _ _ _ _ us hl => match us, hl with | [_, _, _], _ => rfl,
    g_l_deed := PySem.W.mg_of X G ha_l_deed,
    F_l_is := F_l_is,
    b_l_is := F_l_is.binds (ps := ["_law_office_here", "_law_m"]) fun _ _ _ _ _ _ us hl => match us, hl with | [_, _], _ => rfl,
    g_l_is := PySem.W.mg_of X G ha_l_is,
    F_l_state := F_l_state,
    b_l_state := F_l_state.binds (ps := ["_law_m", "_law_number"]) fun _ _ _ _ _ _ us hl => match us, hl with | [_, _], _ => rfl,
    g_l_state := PySem.W.mg_of X G ha_l_state,
    F_l_text := F_l_text,
    b_l_text := F_l_text.binds (ps := ["_law_deed_here"]) fun _ _ _ _ _ _ us hl => match us, hl with | [_], _ => rfl,
    g_l_text := PySem.W.mg_of X G ha_l_text,
    F_l_odd := F_l_odd,
    b_l_odd := F_l_odd.binds (ps := ["_law_state_here", "_law_m", "_law_deed_here"]) fun _ _ _ _ _ _ us hl => match us, hl with | [_, _, _], _ => rfl,
    g_l_odd := PySem.W.mg_of X G ha_l_odd,
    F_l_answer := F_l_answer,
    b_l_answer := F_l_answer.binds (ps := ["_law_m", "_law_deed_here"]) fun _ _ _ _ _ _ us hl => match us, hl with | [_, _], _ => rfl,
    g_l_answer := PySem.W.mg_of X G ha_l_answer,
    F_l_no_office := F_l_no_office,
    b_l_no_office := F_l_no_office.binds (ps := ["_law_top", "_law_desks"]) fun _ _ _ _ _ _ us hl => match us, hl with | [_, _], _ => rfl,
    g_l_no_office := PySem.W.mg_of X G ha_l_no_office,
    F_law := F_law,
    b_law := F_law.binds (ps := ["_law_script"]) fun _ _ _ _ _ _ us hl => match us, hl with | [_], _ => rfl,
    g_law := PySem.W.mg_of X G ha_law }
  have kn_NoDesk : Kn K ad x_NoDesk 0 := ⟨by decide, lt9 e0_NoDesk e1_NoDesk e2_NoDesk e3_NoDesk e4_NoDesk e5_NoDesk e6_NoDesk e7_NoDesk e8_NoDesk, eo_NoDesk, ev_NoDesk, eg_NoDesk, ⟨ehg_NoDesk, ehk_NoDesk, xb_NoDesk, ehd_NoDesk, eha_NoDesk, ecn, ect, ehm_NoDesk⟩⟩
  have kn_Stopped : Kn K ad x_Stopped 1 := ⟨by decide, lt9 e0_Stopped e1_Stopped e2_Stopped e3_Stopped e4_Stopped e5_Stopped e6_Stopped e7_Stopped e8_Stopped, eo_Stopped, ev_Stopped, eg_Stopped, ⟨ehg_Stopped, ehk_Stopped, xb_Stopped, ehd_Stopped, eha_Stopped, ecn, ect, ehm_Stopped⟩⟩
  have kn_NoRoom : Kn K ad x_NoRoom 2 := ⟨by decide, lt9 e0_NoRoom e1_NoRoom e2_NoRoom e3_NoRoom e4_NoRoom e5_NoRoom e6_NoRoom e7_NoRoom e8_NoRoom, eo_NoRoom, ev_NoRoom, eg_NoRoom, ⟨ehg_NoRoom, ehk_NoRoom, xb_NoRoom, ehd_NoRoom, eha_NoRoom, ecn, ect, ehm_NoRoom⟩⟩
  have kn_NoCount : Kn K ad x_NoCount 3 := ⟨by decide, lt9 e0_NoCount e1_NoCount e2_NoCount e3_NoCount e4_NoCount e5_NoCount e6_NoCount e7_NoCount e8_NoCount, eo_NoCount, ev_NoCount, eg_NoCount, ⟨ehg_NoCount, ehk_NoCount, xb_NoCount, ehd_NoCount, eha_NoCount, ecn, ect, ehm_NoCount⟩⟩
  have kn_NoWord : Kn K ad x_NoWord 4 := ⟨by decide, lt9 e0_NoWord e1_NoWord e2_NoWord e3_NoWord e4_NoWord e5_NoWord e6_NoWord e7_NoWord e8_NoWord, eo_NoWord, ev_NoWord, eg_NoWord, ⟨ehg_NoWord, ehk_NoWord, xb_NoWord, ehd_NoWord, eha_NoWord, ecn, ect, ehm_NoWord⟩⟩
  have kn_Short : Kn K ad x_Short 5 := ⟨by decide, lt9 e0_Short e1_Short e2_Short e3_Short e4_Short e5_Short e6_Short e7_Short e8_Short, eo_Short, ev_Short, eg_Short, ⟨ehg_Short, ehk_Short, xb_Short, ehd_Short, eha_Short, ecn, ect, ehm_Short⟩⟩
  have kn_NoNumber : Kn K ad x_NoNumber 6 := ⟨by decide, lt9 e0_NoNumber e1_NoNumber e2_NoNumber e3_NoNumber e4_NoNumber e5_NoNumber e6_NoNumber e7_NoNumber e8_NoNumber, eo_NoNumber, ev_NoNumber, eg_NoNumber, ⟨ehg_NoNumber, ehk_NoNumber, xb_NoNumber, ehd_NoNumber, eha_NoNumber, ecn, ect, ehm_NoNumber⟩⟩
  have kn_Twice : Kn K ad x_Twice 7 := ⟨by decide, lt9 e0_Twice e1_Twice e2_Twice e3_Twice e4_Twice e5_Twice e6_Twice e7_Twice e8_Twice, eo_Twice, ev_Twice, eg_Twice, ⟨ehg_Twice, ehk_Twice, xb_Twice, ehd_Twice, eha_Twice, ecn, ect, ehm_Twice⟩⟩
  have kn_NotThere : Kn K ad x_NotThere 8 := ⟨by decide, lt9 e0_NotThere e1_NotThere e2_NotThere e3_NotThere e4_NotThere e5_NotThere e6_NotThere e7_NotThere e8_NotThere, eo_NotThere, ev_NotThere, eg_NotThere, ⟨ehg_NotThere, ehk_NotThere, xb_NotThere, ehd_NotThere, eha_NotThere, ecn, ect, ehm_NotThere⟩⟩
  have KN : ∀ i, i < 9 → Kn K ad (nine ad i) i := lt9 kn_NoDesk kn_Stopped kn_NoRoom kn_NoCount kn_NoWord kn_Short kn_NoNumber kn_Twice kn_NotThere
  have ND : NumD K w ad.NUMBERS := numD_of hdl_NUMBERS hkl_NUMBERS hlo_NUMBERS
  have XM : XM9 K ad := fun i j hi hj => by
    revert j
    revert i
    exact lt9' (fun j hj => lt9' (p := fun j => PySem.W.exmOne K (.ref (nine ad 0)) (.ref (nine ad j)) = some (decide (0 = j))) xm00 xm01 xm02 xm03 xm04 xm05 xm06 xm07 xm08 j hj) (fun j hj => lt9' (p := fun j => PySem.W.exmOne K (.ref (nine ad 1)) (.ref (nine ad j)) = some (decide (1 = j))) xm10 xm11 xm12 xm13 xm14 xm15 xm16 xm17 xm18 j hj) (fun j hj => lt9' (p := fun j => PySem.W.exmOne K (.ref (nine ad 2)) (.ref (nine ad j)) = some (decide (2 = j))) xm20 xm21 xm22 xm23 xm24 xm25 xm26 xm27 xm28 j hj) (fun j hj => lt9' (p := fun j => PySem.W.exmOne K (.ref (nine ad 3)) (.ref (nine ad j)) = some (decide (3 = j))) xm30 xm31 xm32 xm33 xm34 xm35 xm36 xm37 xm38 j hj) (fun j hj => lt9' (p := fun j => PySem.W.exmOne K (.ref (nine ad 4)) (.ref (nine ad j)) = some (decide (4 = j))) xm40 xm41 xm42 xm43 xm44 xm45 xm46 xm47 xm48 j hj) (fun j hj => lt9' (p := fun j => PySem.W.exmOne K (.ref (nine ad 5)) (.ref (nine ad j)) = some (decide (5 = j))) xm50 xm51 xm52 xm53 xm54 xm55 xm56 xm57 xm58 j hj) (fun j hj => lt9' (p := fun j => PySem.W.exmOne K (.ref (nine ad 6)) (.ref (nine ad j)) = some (decide (6 = j))) xm60 xm61 xm62 xm63 xm64 xm65 xm66 xm67 xm68 j hj) (fun j hj => lt9' (p := fun j => PySem.W.exmOne K (.ref (nine ad 7)) (.ref (nine ad j)) = some (decide (7 = j))) xm70 xm71 xm72 xm73 xm74 xm75 xm76 xm77 xm78 j hj) (fun j hj => lt9' (p := fun j => PySem.W.exmOne K (.ref (nine ad 8)) (.ref (nine ad j)) = some (decide (8 = j))) xm80 xm81 xm82 xm83 xm84 xm85 xm86 xm87 xm88 j hj)
  exact ⟨fd.law, fun s v => .of_eq rfl, fun base _ _ => ok_law T KN ND XM ⟨oca, ecn, ect, ocm, oce, oxo⟩⟩
theorem walk {l : PySem.W.OpenLaw} {q : Program} {loose : List Str} {XP : (Str → Option Value) → Heap → Prop} {YP : World → Heap → Prop} {d : DefRec} {K : Params → PySem.W.Frag} (hn : l.most = some 63) (hdf : d.params.defaults = [])
    (hY : ∀ (w : World) (h : Heap), YP w h → (K w.params).In h)
    (F : ∀ (w : World) (mg : Str → Option Value) (fa : Addr) (h : Heap), (K w.params).In h → h.Ns mainGlobals mg → mg d.name = some (.ref fa) →
      ∃ fd : FuncData, (∀ (s : Shared) (u : Value), BindsTo s fd ⟨[u], []⟩ [("_law_script", u)]) ∧ ∀ base : Heap, (K w.params).In base → base.Ns mainGlobals mg → FnOk l.prog w (K w.params) mg base CX0 9 fa fd ["_law_script"] (spLaw (K w.params))) :
    PySem.W.WalkO q loose XP YP l.row.toRowW d [] (fun f vs => PySem.call f vs) :=
  L2.walk_of (n := 63) (k := 9) (x := "_law_script") (CX := fun _ => CX0) (sp := fun w => spLaw (K w.params)) hn (by decide) hdf ⟨rfl, by decide, by decide⟩ hY F (fun _ _ a ns hl _ hS => ⟨a, ns, rfl, hS, hl, fun _ => rfl⟩) fun _ _ _ _ _ z => z
end Nu
open PySem PySem.W PyProof.Rows in
set_option maxRecDepth 100000 in
set_option maxHeartbeats 0 in
theorem PySem.Challenge.cw_numbergaps_k17_books_played_holds : PySem.Challenge.rw_numbergaps_k17_books_played.Holds := by
  w_on; o_law; k_head; (case hw => w_witness2)
  k_fill
  refine Nu.walk (l := PySem.Challenge.rw_numbergaps_k17_books_played) rfl rfl (fun w h Y => PySem.W.kIn_of Y) ?F
  case F =>
    intro w mg fa h KX G hmg
    refine' Nu.all_mk KX G hmg ?hC ?hn_ValueError ?hn_all ?hn_bool ?hn_dict ?hn_int ?hn_isinstance ?hn_len ?hn_list ?hn_max ?hn_range ?hn_sorted ?hn_str ?hn_tuple ?hn_zip ?hc_MOST_NUMBERS ?hc_MOST_DESKS ?hc_FREE ?hc_OPEN ?hc_PAPER ?hc_SPOILT ?hc_USED ?hc_REST ?hc_GOING ?hc_STOPPED ?hc_SETTLED ?hc_BAD_ROW ?hc_DONE ?hc_MOST_FIGURES ?hc_FIGURES ?hc_REPORT ?ha_Office_init ?hi_Office_init ?hl_Office_init ?hd_Office_init ?hk_Office_init ?ha_Office_lend ?hi_Office_lend ?hl_Office_lend ?hd_Office_lend ?hk_Office_lend ?ha_Office_report ?hi_Office_report ?hl_Office_report ?hd_Office_report ?hk_Office_report ?ha_Office_back ?hi_Office_back ?hl_Office_back ?hd_Office_back ?hk_Office_back ?ha_Office_stop ?hi_Office_stop ?hl_Office_stop ?hd_Office_stop ?hk_Office_stop ?ha_Office_found ?hi_Office_found ?hl_Office_found ?hd_Office_found ?hk_Office_found ?ha_Office_settle ?hi_Office_settle ?hl_Office_settle ?hd_Office_settle ?hk_Office_settle ?ha_Office_open_numbers ?hi_Office_open_numbers ?hl_Office_open_numbers ?hd_Office_open_numbers ?hk_Office_open_numbers ?ha_Office_rest ?hi_Office_rest ?hl_Office_rest ?hd_Office_rest ?hk_Office_rest ?ha_Office_has_rest ?hi_Office_has_rest ?hl_Office_has_rest ?hd_Office_has_rest ?hk_Office_has_rest ?ha_Office_least_used ?hi_Office_least_used ?hl_Office_least_used ?hd_Office_least_used ?hk_Office_least_used ?ha_Office_numbers ?hi_Office_numbers ?hl_Office_numbers ?hd_Office_numbers ?hk_Office_numbers ?ha_Office_state ?hi_Office_state ?hl_Office_state ?hd_Office_state ?hk_Office_state ?ha_Office_holder ?hi_Office_holder ?hl_Office_holder ?hd_Office_holder ?hk_Office_holder ?ha_Office__check_desk ?hi_Office__check_desk ?hl_Office__check_desk ?hd_Office__check_desk ?hk_Office__check_desk ?ha_Office__check_going ?hi_Office__check_going ?hl_Office__check_going ?hd_Office__check_going ?hk_Office__check_going ?ha_Office__first_of_free ?hi_Office__first_of_free ?hl_Office__first_of_free ?hd_Office__first_of_free ?hk_Office__first_of_free ?ha_Office__let_go ?hi_Office__let_go ?hl_Office__let_go ?hd_Office__let_go ?hk_Office__let_go ?ha_Office__use ?hi_Office__use ?hl_Office__use ?hd_Office__use ?hk_Office__use ?ha_played ?hl_played ?hd_played ?hk_played ?ha_answer ?hl_answer ?hd_answer ?hk_answer ?ha_done ?hl_done ?hd_done ?hk_done ?ha_is_deed ?hl_is_deed ?hd_is_deed ?hk_is_deed ?ha_are_reported ?hl_are_reported ?hd_are_reported ?hk_are_reported ?ha_is_number ?hl_is_number ?hd_is_number ?hk_is_number ?ha_state_of ?hl_state_of ?hd_state_of ?hk_state_of ?ha_l_start ?hl_l_start ?hd_l_start ?hk_l_start ?ha_l_drawn ?hl_l_drawn ?hd_l_drawn ?hk_l_drawn ?ha_l_same ?hl_l_same ?hd_l_same ?hk_l_same ?ha_l_office ?hl_l_office ?hd_l_office ?hk_l_office ?ha_l_holder ?hl_l_holder ?hd_l_holder ?hk_l_holder ?ha_l_lent ?hl_l_lent ?hd_l_lent ?hk_l_lent ?ha_l_reported ?hl_l_reported ?hd_l_reported ?hk_l_reported ?ha_l_found ?hl_l_found ?hd_l_found ?hk_l_found ?ha_l_settled ?hl_l_settled ?hd_l_settled ?hk_l_settled ?ha_l_due ?hl_l_due ?hd_l_due ?hk_l_due ?ha_l_does ?hl_l_does ?hd_l_does ?hk_l_does ?ha_l_told ?hl_l_told ?hd_l_told ?hk_l_told ?ha_l_words ?hl_l_words ?hd_l_words ?hk_l_words ?ha_l_deed ?hl_l_deed ?hd_l_deed ?hk_l_deed ?ha_l_is ?hl_l_is ?hd_l_is ?hk_l_is ?ha_l_state ?hl_l_state ?hd_l_state ?hk_l_state ?ha_l_text ?hl_l_text ?hd_l_text ?hk_l_text ?ha_l_odd ?hl_l_odd ?hd_l_odd ?hk_l_odd ?ha_l_answer ?hl_l_answer ?hd_l_answer ?hk_l_answer ?ha_l_no_office ?hl_l_no_office ?hd_l_no_office ?hk_l_no_office ?ha_law ?hl_law ?hd_law ?hk_law ?pg ?hd ?po ?sa ?mk ?kc ?hna_states ?hna_holders ?hna_stages ?hna_lent ?xg_GapError ?xx_GapError ?xk_GapError ?xb_GapError ?xt_GapError ?xg_NoOffice ?xx_NoOffice ?xk_NoOffice ?xb_NoOffice ?xt_NoOffice ?xg_NoDesk ?xx_NoDesk ?xk_NoDesk ?xb_NoDesk ?xt_NoDesk ?xg_Stopped ?xx_Stopped ?xk_Stopped ?xb_Stopped ?xt_Stopped ?xg_NoRoom ?xx_NoRoom ?xk_NoRoom ?xb_NoRoom ?xt_NoRoom ?xg_NoCount ?xx_NoCount ?xk_NoCount ?xb_NoCount ?xt_NoCount ?xg_NoWord ?xx_NoWord ?xk_NoWord ?xb_NoWord ?xt_NoWord ?xg_Short ?xx_Short ?xk_Short ?xb_Short ?xt_Short ?xg_NoNumber ?xx_NoNumber ?xk_NoNumber ?xb_NoNumber ?xt_NoNumber ?xg_Twice ?xx_Twice ?xk_Twice ?xb_Twice ?xt_Twice ?xg_NotThere ?xx_NotThere ?xk_NotThere ?xb_NotThere ?xt_NotThere ?xg_NoWorld ?xx_NoWorld ?xk_NoWorld ?xb_NoWorld ?xt_NoWorld ?xg_NoBox ?xx_NoBox ?xk_NoBox ?xb_NoBox ?xt_NoBox ?ecn ?ect ?ehg_NoDesk ?ehk_NoDesk ?ehd_NoDesk ?eha_NoDesk ?ehm_NoDesk ?e0_NoDesk ?e1_NoDesk ?e2_NoDesk ?e3_NoDesk ?e4_NoDesk ?e5_NoDesk ?e6_NoDesk ?e7_NoDesk ?e8_NoDesk ?eo_NoDesk ?ev_NoDesk ?eg_NoDesk ?ehg_Stopped ?ehk_Stopped ?ehd_Stopped ?eha_Stopped ?ehm_Stopped ?e0_Stopped ?e1_Stopped ?e2_Stopped ?e3_Stopped ?e4_Stopped ?e5_Stopped ?e6_Stopped ?e7_Stopped ?e8_Stopped ?eo_Stopped ?ev_Stopped ?eg_Stopped ?ehg_NoRoom ?ehk_NoRoom ?ehd_NoRoom ?eha_NoRoom ?ehm_NoRoom ?e0_NoRoom ?e1_NoRoom ?e2_NoRoom ?e3_NoRoom ?e4_NoRoom ?e5_NoRoom ?e6_NoRoom ?e7_NoRoom ?e8_NoRoom ?eo_NoRoom ?ev_NoRoom ?eg_NoRoom ?ehg_NoCount ?ehk_NoCount ?ehd_NoCount ?eha_NoCount ?ehm_NoCount ?e0_NoCount ?e1_NoCount ?e2_NoCount ?e3_NoCount ?e4_NoCount ?e5_NoCount ?e6_NoCount ?e7_NoCount ?e8_NoCount ?eo_NoCount ?ev_NoCount ?eg_NoCount ?ehg_NoWord ?ehk_NoWord ?ehd_NoWord ?eha_NoWord ?ehm_NoWord ?e0_NoWord ?e1_NoWord ?e2_NoWord ?e3_NoWord ?e4_NoWord ?e5_NoWord ?e6_NoWord ?e7_NoWord ?e8_NoWord ?eo_NoWord ?ev_NoWord ?eg_NoWord ?ehg_Short ?ehk_Short ?ehd_Short ?eha_Short ?ehm_Short ?e0_Short ?e1_Short ?e2_Short ?e3_Short ?e4_Short ?e5_Short ?e6_Short ?e7_Short ?e8_Short ?eo_Short ?ev_Short ?eg_Short ?ehg_NoNumber ?ehk_NoNumber ?ehd_NoNumber ?eha_NoNumber ?ehm_NoNumber ?e0_NoNumber ?e1_NoNumber ?e2_NoNumber ?e3_NoNumber ?e4_NoNumber ?e5_NoNumber ?e6_NoNumber ?e7_NoNumber ?e8_NoNumber ?eo_NoNumber ?ev_NoNumber ?eg_NoNumber ?ehg_Twice ?ehk_Twice ?ehd_Twice ?eha_Twice ?ehm_Twice ?e0_Twice ?e1_Twice ?e2_Twice ?e3_Twice ?e4_Twice ?e5_Twice ?e6_Twice ?e7_Twice ?e8_Twice ?eo_Twice ?ev_Twice ?eg_Twice ?ehg_NotThere ?ehk_NotThere ?ehd_NotThere ?eha_NotThere ?ehm_NotThere ?e0_NotThere ?e1_NotThere ?e2_NotThere ?e3_NotThere ?e4_NotThere ?e5_NotThere ?e6_NotThere ?e7_NotThere ?e8_NotThere ?eo_NotThere ?ev_NotThere ?eg_NotThere ?xm00 ?xm01 ?xm02 ?xm03 ?xm04 ?xm05 ?xm06 ?xm07 ?xm08 ?xm10 ?xm11 ?xm12 ?xm13 ?xm14 ?xm15 ?xm16 ?xm17 ?xm18 ?xm20 ?xm21 ?xm22 ?xm23 ?xm24 ?xm25 ?xm26 ?xm27 ?xm28 ?xm30 ?xm31 ?xm32 ?xm33 ?xm34 ?xm35 ?xm36 ?xm37 ?xm38 ?xm40 ?xm41 ?xm42 ?xm43 ?xm44 ?xm45 ?xm46 ?xm47 ?xm48 ?xm50 ?xm51 ?xm52 ?xm53 ?xm54 ?xm55 ?xm56 ?xm57 ?xm58 ?xm60 ?xm61 ?xm62 ?xm63 ?xm64 ?xm65 ?xm66 ?xm67 ?xm68 ?xm70 ?xm71 ?xm72 ?xm73 ?xm74 ?xm75 ?xm76 ?xm77 ?xm78 ?xm80 ?xm81 ?xm82 ?xm83 ?xm84 ?xm85 ?xm86 ?xm87 ?xm88 ?ha_NUMBERS ?hdl_NUMBERS ?hkl_NUMBERS ?hlo_NUMBERS ?oca ?ocm ?oce ?oxo
    (case hC => k_is)
    (case hn_ValueError => k_is)
    (case hn_all => k_is)
    (case hn_bool => k_is)
    (case hn_dict => k_is)
    (case hn_int => k_is)
    (case hn_isinstance => k_is)
    (case hn_len => k_is)
    (case hn_list => k_is)
    (case hn_max => k_is)
    (case hn_range => k_is)
    (case hn_sorted => k_is)
    (case hn_str => k_is)
    (case hn_tuple => k_is)
    (case hn_zip => k_is)
    (case hc_MOST_NUMBERS => k_is)
    (case hc_MOST_DESKS => k_is)
    (case hc_FREE => k_is)
    (case hc_OPEN => k_is)
    (case hc_PAPER => k_is)
    (case hc_SPOILT => k_is)
    (case hc_USED => k_is)
    (case hc_REST => k_is)
    (case hc_GOING => k_is)
    (case hc_STOPPED => k_is)
    (case hc_SETTLED => k_is)
    (case hc_BAD_ROW => k_is)
    (case hc_DONE => k_is)
    (case hc_MOST_FIGURES => k_is)
    (case hc_FIGURES => k_is)
    (case hc_REPORT => k_is)
    (case ha_Office_init => k_is)
    (case hi_Office_init => k_is)
    (case hl_Office_init => k_is)
    (case hd_Office_init => k_is)
    (case hk_Office_init => k_is)
    (case ha_Office_lend => k_is)
    (case hi_Office_lend => k_is)
    (case hl_Office_lend => k_is)
    (case hd_Office_lend => k_is)
    (case hk_Office_lend => k_is)
    (case ha_Office_report => k_is)
    (case hi_Office_report => k_is)
    (case hl_Office_report => k_is)
    (case hd_Office_report => k_is)
    (case hk_Office_report => k_is)
    (case ha_Office_back => k_is)
    (case hi_Office_back => k_is)
    (case hl_Office_back => k_is)
    (case hd_Office_back => k_is)
    (case hk_Office_back => k_is)
    (case ha_Office_stop => k_is)
    (case hi_Office_stop => k_is)
    (case hl_Office_stop => k_is)
    (case hd_Office_stop => k_is)
    (case hk_Office_stop => k_is)
    (case ha_Office_found => k_is)
    (case hi_Office_found => k_is)
    (case hl_Office_found => k_is)
    (case hd_Office_found => k_is)
    (case hk_Office_found => k_is)
    (case ha_Office_settle => k_is)
    (case hi_Office_settle => k_is)
    (case hl_Office_settle => k_is)
    (case hd_Office_settle => k_is)
    (case hk_Office_settle => k_is)
    (case ha_Office_open_numbers => k_is)
    (case hi_Office_open_numbers => k_is)
    (case hl_Office_open_numbers => k_is)
    (case hd_Office_open_numbers => k_is)
    (case hk_Office_open_numbers => k_is)
    (case ha_Office_rest => k_is)
    (case hi_Office_rest => k_is)
    (case hl_Office_rest => k_is)
    (case hd_Office_rest => k_is)
    (case hk_Office_rest => k_is)
    (case ha_Office_has_rest => k_is)
    (case hi_Office_has_rest => k_is)
    (case hl_Office_has_rest => k_is)
    (case hd_Office_has_rest => k_is)
    (case hk_Office_has_rest => k_is)
    (case ha_Office_least_used => k_is)
    (case hi_Office_least_used => k_is)
    (case hl_Office_least_used => k_is)
    (case hd_Office_least_used => k_is)
    (case hk_Office_least_used => k_is)
    (case ha_Office_numbers => k_is)
    (case hi_Office_numbers => k_is)
    (case hl_Office_numbers => k_is)
    (case hd_Office_numbers => k_is)
    (case hk_Office_numbers => k_is)
    (case ha_Office_state => k_is)
    (case hi_Office_state => k_is)
    (case hl_Office_state => k_is)
    (case hd_Office_state => k_is)
    (case hk_Office_state => k_is)
    (case ha_Office_holder => k_is)
    (case hi_Office_holder => k_is)
    (case hl_Office_holder => k_is)
    (case hd_Office_holder => k_is)
    (case hk_Office_holder => k_is)
    (case ha_Office__check_desk => k_is)
    (case hi_Office__check_desk => k_is)
    (case hl_Office__check_desk => k_is)
    (case hd_Office__check_desk => k_is)
    (case hk_Office__check_desk => k_is)
    (case ha_Office__check_going => k_is)
    (case hi_Office__check_going => k_is)
    (case hl_Office__check_going => k_is)
    (case hd_Office__check_going => k_is)
    (case hk_Office__check_going => k_is)
    (case ha_Office__first_of_free => k_is)
    (case hi_Office__first_of_free => k_is)
    (case hl_Office__first_of_free => k_is)
    (case hd_Office__first_of_free => k_is)
    (case hk_Office__first_of_free => k_is)
    (case ha_Office__let_go => k_is)
    (case hi_Office__let_go => k_is)
    (case hl_Office__let_go => k_is)
    (case hd_Office__let_go => k_is)
    (case hk_Office__let_go => k_is)
    (case ha_Office__use => k_is)
    (case hi_Office__use => k_is)
    (case hl_Office__use => k_is)
    (case hd_Office__use => k_is)
    (case hk_Office__use => k_is)
    (case ha_played => k_is)
    (case hl_played => k_is)
    (case hd_played => k_is)
    (case hk_played => k_is)
    (case ha_answer => k_is)
    (case hl_answer => k_is)
    (case hd_answer => k_is)
    (case hk_answer => k_is)
    (case ha_done => k_is)
    (case hl_done => k_is)
    (case hd_done => k_is)
    (case hk_done => k_is)
    (case ha_is_deed => k_is)
    (case hl_is_deed => k_is)
    (case hd_is_deed => k_is)
    (case hk_is_deed => k_is)
    (case ha_are_reported => k_is)
    (case hl_are_reported => k_is)
    (case hd_are_reported => k_is)
    (case hk_are_reported => k_is)
    (case ha_is_number => k_is)
    (case hl_is_number => k_is)
    (case hd_is_number => k_is)
    (case hk_is_number => k_is)
    (case ha_state_of => k_is)
    (case hl_state_of => k_is)
    (case hd_state_of => k_is)
    (case hk_state_of => k_is)
    (case ha_l_start => k_is)
    (case hl_l_start => k_is)
    (case hd_l_start => k_is)
    (case hk_l_start => k_is)
    (case ha_l_drawn => k_is)
    (case hl_l_drawn => k_is)
    (case hd_l_drawn => k_is)
    (case hk_l_drawn => k_is)
    (case ha_l_same => k_is)
    (case hl_l_same => k_is)
    (case hd_l_same => k_is)
    (case hk_l_same => k_is)
    (case ha_l_office => k_is)
    (case hl_l_office => k_is)
    (case hd_l_office => k_is)
    (case hk_l_office => k_is)
    (case ha_l_holder => k_is)
    (case hl_l_holder => k_is)
    (case hd_l_holder => k_is)
    (case hk_l_holder => k_is)
    (case ha_l_lent => k_is)
    (case hl_l_lent => k_is)
    (case hd_l_lent => k_is)
    (case hk_l_lent => k_is)
    (case ha_l_reported => k_is)
    (case hl_l_reported => k_is)
    (case hd_l_reported => k_is)
    (case hk_l_reported => k_is)
    (case ha_l_found => k_is)
    (case hl_l_found => k_is)
    (case hd_l_found => k_is)
    (case hk_l_found => k_is)
    (case ha_l_settled => k_is)
    (case hl_l_settled => k_is)
    (case hd_l_settled => k_is)
    (case hk_l_settled => k_is)
    (case ha_l_due => k_is)
    (case hl_l_due => k_is)
    (case hd_l_due => k_is)
    (case hk_l_due => k_is)
    (case ha_l_does => k_is)
    (case hl_l_does => k_is)
    (case hd_l_does => k_is)
    (case hk_l_does => k_is)
    (case ha_l_told => k_is)
    (case hl_l_told => k_is)
    (case hd_l_told => k_is)
    (case hk_l_told => k_is)
    (case ha_l_words => k_is)
    (case hl_l_words => k_is)
    (case hd_l_words => k_is)
    (case hk_l_words => k_is)
    (case ha_l_deed => k_is)
    (case hl_l_deed => k_is)
    (case hd_l_deed => k_is)
    (case hk_l_deed => k_is)
    (case ha_l_is => k_is)
    (case hl_l_is => k_is)
    (case hd_l_is => k_is)
    (case hk_l_is => k_is)
    (case ha_l_state => k_is)
    (case hl_l_state => k_is)
    (case hd_l_state => k_is)
    (case hk_l_state => k_is)
    (case ha_l_text => k_is)
    (case hl_l_text => k_is)
    (case hd_l_text => k_is)
    (case hk_l_text => k_is)
    (case ha_l_odd => k_is)
    (case hl_l_odd => k_is)
    (case hd_l_odd => k_is)
    (case hk_l_odd => k_is)
    (case ha_l_answer => k_is)
    (case hl_l_answer => k_is)
    (case hd_l_answer => k_is)
    (case hk_l_answer => k_is)
    (case ha_l_no_office => k_is)
    (case hl_l_no_office => k_is)
    (case hd_l_no_office => k_is)
    (case hk_l_no_office => k_is)
    (case ha_law => k_is)
    (case hl_law => k_is)
    (case hd_law => k_is)
    (case hk_law => k_is)
    (case pg => k_is)
    (case hd => k_is)
    (case po => k_is)
    (case sa => k_is)
    (case mk => k_is)
    (case kc => k_is)
    (case hna_states => k_is)
    (case hna_holders => k_is)
    (case hna_stages => k_is)
    (case hna_lent => k_is)
    (case xg_GapError => k_is)
    (case xx_GapError => k_exc)
    (case xk_GapError => k_is)
    (case xb_GapError => k_is)
    (case xt_GapError => k_is)
    (case xg_NoOffice => k_is)
    (case xx_NoOffice => k_exc)
    (case xk_NoOffice => k_is)
    (case xb_NoOffice => k_is)
    (case xt_NoOffice => k_is)
    (case xg_NoDesk => k_is)
    (case xx_NoDesk => k_exc)
    (case xk_NoDesk => k_is)
    (case xb_NoDesk => k_is)
    (case xt_NoDesk => k_is)
    (case xg_Stopped => k_is)
    (case xx_Stopped => k_exc)
    (case xk_Stopped => k_is)
    (case xb_Stopped => k_is)
    (case xt_Stopped => k_is)
    (case xg_NoRoom => k_is)
    (case xx_NoRoom => k_exc)
    (case xk_NoRoom => k_is)
    (case xb_NoRoom => k_is)
    (case xt_NoRoom => k_is)
    (case xg_NoCount => k_is)
    (case xx_NoCount => k_exc)
    (case xk_NoCount => k_is)
    (case xb_NoCount => k_is)
    (case xt_NoCount => k_is)
    (case xg_NoWord => k_is)
    (case xx_NoWord => k_exc)
    (case xk_NoWord => k_is)
    (case xb_NoWord => k_is)
    (case xt_NoWord => k_is)
    (case xg_Short => k_is)
    (case xx_Short => k_exc)
    (case xk_Short => k_is)
    (case xb_Short => k_is)
    (case xt_Short => k_is)
    (case xg_NoNumber => k_is)
    (case xx_NoNumber => k_exc)
    (case xk_NoNumber => k_is)
    (case xb_NoNumber => k_is)
    (case xt_NoNumber => k_is)
    (case xg_Twice => k_is)
    (case xx_Twice => k_exc)
    (case xk_Twice => k_is)
    (case xb_Twice => k_is)
    (case xt_Twice => k_is)
    (case xg_NotThere => k_is)
    (case xx_NotThere => k_exc)
    (case xk_NotThere => k_is)
    (case xb_NotThere => k_is)
    (case xt_NotThere => k_is)
    (case xg_NoWorld => k_is)
    (case xx_NoWorld => k_exc)
    (case xk_NoWorld => k_is)
    (case xb_NoWorld => k_is)
    (case xt_NoWorld => k_is)
    (case xg_NoBox => k_is)
    (case xx_NoBox => k_exc)
    (case xk_NoBox => k_is)
    (case xb_NoBox => k_is)
    (case xt_NoBox => k_is)
    (case ecn => k_is)
    (case ect => k_is)
    (case ehg_NoDesk => k_is)
    (case ehk_NoDesk => k_is)
    (case ehd_NoDesk => k_is)
    (case eha_NoDesk => k_is)
    (case ehm_NoDesk => k_is)
    (case e0_NoDesk => kit_is)
    (case e1_NoDesk => kit_is)
    (case e2_NoDesk => kit_is)
    (case e3_NoDesk => kit_is)
    (case e4_NoDesk => kit_is)
    (case e5_NoDesk => kit_is)
    (case e6_NoDesk => kit_is)
    (case e7_NoDesk => kit_is)
    (case e8_NoDesk => kit_is)
    (case eo_NoDesk => kit_is)
    (case ev_NoDesk => kit_is)
    (case eg_NoDesk => kts_exm)
    (case ehg_Stopped => k_is)
    (case ehk_Stopped => k_is)
    (case ehd_Stopped => k_is)
    (case eha_Stopped => k_is)
    (case ehm_Stopped => k_is)
    (case e0_Stopped => kit_is)
    (case e1_Stopped => kit_is)
    (case e2_Stopped => kit_is)
    (case e3_Stopped => kit_is)
    (case e4_Stopped => kit_is)
    (case e5_Stopped => kit_is)
    (case e6_Stopped => kit_is)
    (case e7_Stopped => kit_is)
    (case e8_Stopped => kit_is)
    (case eo_Stopped => kit_is)
    (case ev_Stopped => kit_is)
    (case eg_Stopped => kts_exm)
    (case ehg_NoRoom => k_is)
    (case ehk_NoRoom => k_is)
    (case ehd_NoRoom => k_is)
    (case eha_NoRoom => k_is)
    (case ehm_NoRoom => k_is)
    (case e0_NoRoom => kit_is)
    (case e1_NoRoom => kit_is)
    (case e2_NoRoom => kit_is)
    (case e3_NoRoom => kit_is)
    (case e4_NoRoom => kit_is)
    (case e5_NoRoom => kit_is)
    (case e6_NoRoom => kit_is)
    (case e7_NoRoom => kit_is)
    (case e8_NoRoom => kit_is)
    (case eo_NoRoom => kit_is)
    (case ev_NoRoom => kit_is)
    (case eg_NoRoom => kts_exm)
    (case ehg_NoCount => k_is)
    (case ehk_NoCount => k_is)
    (case ehd_NoCount => k_is)
    (case eha_NoCount => k_is)
    (case ehm_NoCount => k_is)
    (case e0_NoCount => kit_is)
    (case e1_NoCount => kit_is)
    (case e2_NoCount => kit_is)
    (case e3_NoCount => kit_is)
    (case e4_NoCount => kit_is)
    (case e5_NoCount => kit_is)
    (case e6_NoCount => kit_is)
    (case e7_NoCount => kit_is)
    (case e8_NoCount => kit_is)
    (case eo_NoCount => kit_is)
    (case ev_NoCount => kit_is)
    (case eg_NoCount => kts_exm)
    (case ehg_NoWord => k_is)
    (case ehk_NoWord => k_is)
    (case ehd_NoWord => k_is)
    (case eha_NoWord => k_is)
    (case ehm_NoWord => k_is)
    (case e0_NoWord => kit_is)
    (case e1_NoWord => kit_is)
    (case e2_NoWord => kit_is)
    (case e3_NoWord => kit_is)
    (case e4_NoWord => kit_is)
    (case e5_NoWord => kit_is)
    (case e6_NoWord => kit_is)
    (case e7_NoWord => kit_is)
    (case e8_NoWord => kit_is)
    (case eo_NoWord => kit_is)
    (case ev_NoWord => kit_is)
    (case eg_NoWord => kts_exm)
    (case ehg_Short => k_is)
    (case ehk_Short => k_is)
    (case ehd_Short => k_is)
    (case eha_Short => k_is)
    (case ehm_Short => k_is)
    (case e0_Short => kit_is)
    (case e1_Short => kit_is)
    (case e2_Short => kit_is)
    (case e3_Short => kit_is)
    (case e4_Short => kit_is)
    (case e5_Short => kit_is)
    (case e6_Short => kit_is)
    (case e7_Short => kit_is)
    (case e8_Short => kit_is)
    (case eo_Short => kit_is)
    (case ev_Short => kit_is)
    (case eg_Short => kts_exm)
    (case ehg_NoNumber => k_is)
    (case ehk_NoNumber => k_is)
    (case ehd_NoNumber => k_is)
    (case eha_NoNumber => k_is)
    (case ehm_NoNumber => k_is)
    (case e0_NoNumber => kit_is)
    (case e1_NoNumber => kit_is)
    (case e2_NoNumber => kit_is)
    (case e3_NoNumber => kit_is)
    (case e4_NoNumber => kit_is)
    (case e5_NoNumber => kit_is)
    (case e6_NoNumber => kit_is)
    (case e7_NoNumber => kit_is)
    (case e8_NoNumber => kit_is)
    (case eo_NoNumber => kit_is)
    (case ev_NoNumber => kit_is)
    (case eg_NoNumber => kts_exm)
    (case ehg_Twice => k_is)
    (case ehk_Twice => k_is)
    (case ehd_Twice => k_is)
    (case eha_Twice => k_is)
    (case ehm_Twice => k_is)
    (case e0_Twice => kit_is)
    (case e1_Twice => kit_is)
    (case e2_Twice => kit_is)
    (case e3_Twice => kit_is)
    (case e4_Twice => kit_is)
    (case e5_Twice => kit_is)
    (case e6_Twice => kit_is)
    (case e7_Twice => kit_is)
    (case e8_Twice => kit_is)
    (case eo_Twice => kit_is)
    (case ev_Twice => kit_is)
    (case eg_Twice => kts_exm)
    (case ehg_NotThere => k_is)
    (case ehk_NotThere => k_is)
    (case ehd_NotThere => k_is)
    (case eha_NotThere => k_is)
    (case ehm_NotThere => k_is)
    (case e0_NotThere => kit_is)
    (case e1_NotThere => kit_is)
    (case e2_NotThere => kit_is)
    (case e3_NotThere => kit_is)
    (case e4_NotThere => kit_is)
    (case e5_NotThere => kit_is)
    (case e6_NotThere => kit_is)
    (case e7_NotThere => kit_is)
    (case e8_NotThere => kit_is)
    (case eo_NotThere => kit_is)
    (case ev_NotThere => kit_is)
    (case eg_NotThere => kts_exm)
    (case xm00 => kts_exm)
    (case xm01 => kts_exm)
    (case xm02 => kts_exm)
    (case xm03 => kts_exm)
    (case xm04 => kts_exm)
    (case xm05 => kts_exm)
    (case xm06 => kts_exm)
    (case xm07 => kts_exm)
    (case xm08 => kts_exm)
    (case xm10 => kts_exm)
    (case xm11 => kts_exm)
    (case xm12 => kts_exm)
    (case xm13 => kts_exm)
    (case xm14 => kts_exm)
    (case xm15 => kts_exm)
    (case xm16 => kts_exm)
    (case xm17 => kts_exm)
    (case xm18 => kts_exm)
    (case xm20 => kts_exm)
    (case xm21 => kts_exm)
    (case xm22 => kts_exm)
    (case xm23 => kts_exm)
    (case xm24 => kts_exm)
    (case xm25 => kts_exm)
    (case xm26 => kts_exm)
    (case xm27 => kts_exm)
    (case xm28 => kts_exm)
    (case xm30 => kts_exm)
    (case xm31 => kts_exm)
    (case xm32 => kts_exm)
    (case xm33 => kts_exm)
    (case xm34 => kts_exm)
    (case xm35 => kts_exm)
    (case xm36 => kts_exm)
    (case xm37 => kts_exm)
    (case xm38 => kts_exm)
    (case xm40 => kts_exm)
    (case xm41 => kts_exm)
    (case xm42 => kts_exm)
    (case xm43 => kts_exm)
    (case xm44 => kts_exm)
    (case xm45 => kts_exm)
    (case xm46 => kts_exm)
    (case xm47 => kts_exm)
    (case xm48 => kts_exm)
    (case xm50 => kts_exm)
    (case xm51 => kts_exm)
    (case xm52 => kts_exm)
    (case xm53 => kts_exm)
    (case xm54 => kts_exm)
    (case xm55 => kts_exm)
    (case xm56 => kts_exm)
    (case xm57 => kts_exm)
    (case xm58 => kts_exm)
    (case xm60 => kts_exm)
    (case xm61 => kts_exm)
    (case xm62 => kts_exm)
    (case xm63 => kts_exm)
    (case xm64 => kts_exm)
    (case xm65 => kts_exm)
    (case xm66 => kts_exm)
    (case xm67 => kts_exm)
    (case xm68 => kts_exm)
    (case xm70 => kts_exm)
    (case xm71 => kts_exm)
    (case xm72 => kts_exm)
    (case xm73 => kts_exm)
    (case xm74 => kts_exm)
    (case xm75 => kts_exm)
    (case xm76 => kts_exm)
    (case xm77 => kts_exm)
    (case xm78 => kts_exm)
    (case xm80 => kts_exm)
    (case xm81 => kts_exm)
    (case xm82 => kts_exm)
    (case xm83 => kts_exm)
    (case xm84 => kts_exm)
    (case xm85 => kts_exm)
    (case xm86 => kts_exm)
    (case xm87 => kts_exm)
    (case xm88 => kts_exm)
    (case ha_NUMBERS => k_is)
    (case hdl_NUMBERS => k_is)
    (case hkl_NUMBERS => k_keys)
    (case hlo_NUMBERS => decide)
    (case oca => k_is)
    (case ocm => k_is)
    (case oce => kit_is)
    (case oxo => kts_exm)
