import PyProof.Rows.All
import Wide.All
import OpenK.AllK
import Wide.FinOn
import HandS.ForMost
import HandS.ForExc
import HandS.DictComp
import HandS.FStr
import HandS.Small
import HandS.IsInst
import HandS.ExcIs
import HandS.Wide
import HandS.SortInts
import HandS.Conv
import HandS.Zip
import HandS.Flow
import PySem.Challenge.RW_numbergaps_k10_plans_walked
import HandS.Walk
set_option Elab.async false
set_option linter.all false
set_option maxRecDepth 100000
set_option maxHeartbeats 4000000
namespace Nu
open PySem L2
/-! ### heaps -/
/-- what is tracked outside of F stays -/
def Keep (F : List Addr) (H H' : Hp) : Prop := ∀ c o, H c = some o → c ∉ F → H' c = some o
theorem Keep.refl (F : List Addr) (H : Hp) : Keep F H H := fun _ _ h _ => h
theorem Keep.trans {F : List Addr} {H H1 H2 : Hp} (a : Keep F H H1) (b : Keep F H1 H2) : Keep F H H2 := fun c o h n => b c o (a c o h n) n
theorem Keep.same {F : List Addr} {H H' : Hp} (s : Same H H') : Keep F H H' := fun c o h _ => s c o h
theorem keep_upd {F : List Addr} {H : Hp} {a : Addr} {o : HO} (h : a ∈ F ∨ H a = none) : Keep F H (upd H a o) := fun c u e n => by
  have ne : c ≠ a := fun z => by
    rcases h with h | h
    · exact n (by rw [z]; exact h)
    · rw [z, h] at e; cases e
  rw [upd_ne ne]
  exact e
theorem same_upd {H : Hp} {a : Addr} {o : HO} (h : H a = none) : Same H (upd H a o) := fun c u e => by
  rw [upd_ne (fun z => by rw [z, h] at e; cases e)]
  exact e
end Nu
namespace Nu
open PySem PySem.Spec PyProof.Rows L2
def top (i : Nat) : Stmt := PySem.Challenge.pw_numbergaps_k10_plans_walked.main.body.getD i (.Pass ⟨0, 0, 0, 0⟩)
abbrev s_walked : Stmt := top 1
theorem sc_walked : FnScope ["plan", "world", "asked", "k", "many", "yes", "no", "answer"] ["plan", "world"] (defScope s_walked) := ⟨rfl, rfl, rfl, by decide +kernel, rfl, by decide +kernel, by decide +kernel⟩
abbrev s_l_start : Stmt := top 3
theorem sc_l_start : FnScope ["_law_script", "_law_mixed", "_law_cell"] ["_law_script"] (defScope s_l_start) := ⟨rfl, rfl, rfl, by decide +kernel, rfl, by decide +kernel, by decide +kernel⟩
abbrev s_l_drawn : Stmt := top 4
theorem sc_l_drawn : FnScope ["_law_state", "_law_many", "_law_found", "_law_cell"] ["_law_state", "_law_many"] (defScope s_l_drawn) := ⟨rfl, rfl, rfl, by decide +kernel, rfl, by decide +kernel, by decide +kernel⟩
abbrev s_l_same : Stmt := top 5
theorem sc_l_same : FnScope ["_law_found", "_law_due", "_law_k"] ["_law_found", "_law_due"] (defScope s_l_same) := ⟨rfl, rfl, rfl, by decide +kernel, rfl, by decide +kernel, by decide +kernel⟩
abbrev s_l_plan : Stmt := top 6
theorem sc_l_plan : FnScope ["_law_state", "_law_places", "_law_deep", "_law_look"] ["_law_state", "_law_places", "_law_deep"] (defScope s_l_plan) := ⟨rfl, rfl, rfl, by decide +kernel, rfl, by decide +kernel, by decide +kernel⟩
abbrev s_l_walked : Stmt := top 7
theorem sc_l_walked : FnScope ["_law_plan_here", "_law_world", "_law_answer"] ["_law_plan_here", "_law_world"] (defScope s_l_walked) := ⟨rfl, rfl, rfl, by decide +kernel, rfl, by decide +kernel, by decide +kernel⟩
abbrev s_law : Stmt := top 8
theorem sc_law : FnScope ["_law_script", "_law_state", "_law_turn", "_law_places", "_law_plan_here", "_law_k", "_law_world", "_law_place", "_law_again", "_law_found"] ["_law_script"] (defScope s_law) := ⟨rfl, rfl, rfl, by decide +kernel, rfl, by decide +kernel, by decide +kernel⟩
section
variable {X : Cx}
theorem pe_gs {x z : Str} {pos : Pos} (hg : Gl X x) (h : ∃ t, X.mg x = some (.str z t)) (hd : (x == ("__debug__" : Str)) = false := by decide) : PE X (.Name x pos) (tC (.str z)) := by
  obtain ⟨t, e⟩ := h
  exact pe_glob hg e ⟨t, rfl⟩ hd
theorem pe_gi {x : Str} {z : Int} {pos : Pos} (hg : Gl X x) (h : ∃ t, X.mg x = some (.int z t)) (hd : (x == ("__debug__" : Str)) = false := by decide) : PE X (.Name x pos) (tC (.int z)) := by
  obtain ⟨t, e⟩ := h
  exact pe_glob hg e ⟨t, rfl⟩ hd
end
structure Ad where
  walked : Addr
  l_start : Addr
  l_drawn : Addr
  l_same : Addr
  l_plan : Addr
  l_walked : Addr
  law : Addr
structure Fd where
  walked : FuncData
  l_start : FuncData
  l_drawn : FuncData
  l_same : FuncData
  l_plan : FuncData
  l_walked : FuncData
  law : FuncData
structure XF (K : PySem.W.Frag) (mg : Str → Option Value) (nm : Str) (C : Addr) : Prop where
  x : PySem.W.excIn K C [.type "ValueError", .type "Exception", .type "BaseException", .type "object"] "ValueError.__new__" = true
  g : mg nm = some (.ref C)
  k : PySem.W.keepIn K (.ref C) = true
  b : PySem.W.subIn K (.ref C) (.type "BaseException") = some true
  t : PySem.W.typeIn K (.ref C) = some (.type "type")
structure Txt (K : PySem.W.Frag) (mg : Str → Option Value) (a : Ad) (fd : Fd) : Prop where
  n_len : mg "len" = none
  n_range : mg "range" = none
  n_tuple : mg "tuple" = none
  n_list : mg "list" = none
  n_isinstance : mg "isinstance" = none
  n_int : mg "int" = none
  n_str : mg "str" = none
  n_bool : mg "bool" = none
  F_walked : Fun K "walked" "walked" s_walked a.walked fd.walked
  b_walked : Binds K fd.walked ["plan", "world"] []
  g_walked : mg "walked" = some (.ref a.walked)
  F_l_start : Fun K "_law_start" "_law_start" s_l_start a.l_start fd.l_start
  b_l_start : Binds K fd.l_start ["_law_script"] []
  g_l_start : mg "_law_start" = some (.ref a.l_start)
  F_l_drawn : Fun K "_law_drawn" "_law_drawn" s_l_drawn a.l_drawn fd.l_drawn
  b_l_drawn : Binds K fd.l_drawn ["_law_state", "_law_many"] []
  g_l_drawn : mg "_law_drawn" = some (.ref a.l_drawn)
  F_l_same : Fun K "_law_same" "_law_same" s_l_same a.l_same fd.l_same
  b_l_same : Binds K fd.l_same ["_law_found", "_law_due"] []
  g_l_same : mg "_law_same" = some (.ref a.l_same)
  F_l_plan : Fun K "_law_plan" "_law_plan" s_l_plan a.l_plan fd.l_plan
  b_l_plan : Binds K fd.l_plan ["_law_state", "_law_places", "_law_deep"] []
  g_l_plan : mg "_law_plan" = some (.ref a.l_plan)
  F_l_walked : Fun K "_law_walked" "_law_walked" s_l_walked a.l_walked fd.l_walked
  b_l_walked : Binds K fd.l_walked ["_law_plan_here", "_law_world"] []
  g_l_walked : mg "_law_walked" = some (.ref a.l_walked)
  F_law : Fun K "law" "law" s_law a.law fd.law
  b_law : Binds K fd.law ["_law_script"] []
  g_law : mg "law" = some (.ref a.law)
section
variable {P : Program} {w : World} {K : PySem.W.Frag} {mg : Str → Option Value} {base : Heap} {N : List Str} {q : Str} {sc : Scope} {f : Addr} {cdv : Value} {A : Around} {outer : List Env} {s : Shared} {H : Hp} {E : XK}
theorem takesU : Takes (cxOf (L2.CX P w) P w K mg base N q sc f cdv A outer s H E) (fun cls d _ H' => E cls d H') := takes_of rfl rfl rfl rfl
theorem passU : Passes (L2.CX P w) (cxOf (L2.CX P w) P w K mg base N q sc f cdv A outer s H E) E := passes_call takesU (fun _ _ _ _ h => h)
theorem passesU : PassesOwn (model P w) (cxOf (L2.CX P w) P w K mg base N q sc f cdv A outer s H E).A (cxOf (L2.CX P w) P w K mg base N q sc f cdv A outer s H E).env (cxOf (L2.CX P w) P w K mg base N q sc f cdv A outer s H E).xe := passes_of rfl
end
end Nu
namespace Nu
open PySem PySem.Spec PyProof.Rows L2
section
variable {ts : List TE} {acc : Str} {σ : L2.St} {H : Hp} {Q : Str → Hp → Prop}
theorem js_s {z : Str} {b : Nat} (ha : acc.length ≤ b) (hl : z.length ≤ 100) (hb : b ≤ 10000) (k : ∀ acc' : Str, acc'.length ≤ b + 100 → tJs ts acc' σ H Q) : tJs (tC (.str z) :: ts) acc σ H Q := by
  have e : (acc ++ z).length ≤ b + 100 := by
    rw [Str.length_append]
    omega
  exact ⟨z, rfl, Nat.le_trans e (by rw [sizeLine_eq]; omega), k _ e⟩
theorem js_f {i : Nat} {n : Int} {b : Nat} (hs : σ[i]? = some (some (.int n))) (hn : n.natAbs.log2 < 1920) (ha : acc.length ≤ b) (hb : b ≤ 10000) (k : ∀ acc' : Str, acc'.length ≤ b + 1921 → tJs ts acc' σ H Q) : tJs (tFmt (tVar i) :: ts) acc σ H Q := by
  have h1 : (Str.ofString (toString n)).length ≤ 1921 := PyProof.Rows.int_text_len_1921 hn
  have e : (acc ++ Str.ofString (toString n)).length ≤ b + 1921 := by
    rw [Str.length_append]
    omega
  exact ⟨_, hs, .inr ⟨n, rfl, hn, _, rfl, Nat.le_trans e (by rw [sizeLine_eq]; omega), k _ e⟩⟩
end
def IntOk (n : Int) : Prop := n.natAbs.log2 < 1920
theorem map_int_at {ns : List Int} {j : Nat} {x : V} (h : (ns.map V.int)[j]? = some x) : ∃ n, ns[j]? = some n ∧ x = V.int n := by
  rw [List.getElem?_map] at h
  cases e : ns[j]? with
  | none => rw [e] at h; cases h
  | some y => rw [e] at h; exact ⟨y, rfl, (Option.some.inj h).symm⟩
theorem wipe1 (σ : L2.St) (i : Nat) (v : Option V) : wipe ((wipe σ [i]).set i v) [i] = wipe σ [i] := by
  show ((σ.set i none).set i v).set i none = σ.set i none
  rw [List.set_set, List.set_set]
theorem gName_go {i : Nat} {x : V} {σ : L2.St} {H : Hp} {R : L2.St → Hp → Prop} (h : R (σ.set i (some x)) H) : gName i x σ H R := h
theorem seq_go {t u : TS} {D : Ends} {σ : L2.St} {H : Hp} (h : t { D with nx := u D } σ H) : tSeq t u D σ H := h
theorem next_go {D : Ends} {σ : L2.St} {H : Hp} (h : D.nx σ H) : tNext D σ H := h
theorem ifS_two {tc : TT} {tt tu : TS} {D : Ends} {σ : L2.St} {H : Hp} (R1 R0 : Hp → Prop) (hc : ∀ Q : Bool → Hp → Prop, (∀ H1, R1 H1 → Q true H1) → (∀ H1, R0 H1 → Q false H1) → tc σ H Q) (ht : ∀ H1, R1 H1 → tt D σ H1) (hf : ∀ H1, R0 H1 → tu D σ H1) : tIfS tc tt tu D σ H :=
  hc _ (fun H1 h => iteT (ht H1 h)) (fun H1 h => iteF (hf H1 h))
def refsV : V → List Addr
  | .ref r => [r]
  | _ => []
theorem mem_refs {v : V} {c : Addr} (h : c ∈ refsV v) : v = .ref c := by
  cases v with
  | ref r => rw [List.mem_singleton.mp h]
  | _ => cases h
theorem Keep.mono {F G : List Addr} {H H' : Hp} (k : Keep F H H') (h : ∀ c ∈ F, c ∈ G) : Keep G H H' := fun c u e n => k c u e fun z => n (h c z)
theorem ifS_join {tc : TT} {tt : TS} {D : Ends} {σ : L2.St} {H : Hp} (P : L2.St → Hp → Prop) (h : ∀ nx : L2.St → Hp → Prop, (∀ σ' H', P σ' H' → nx σ' H') → tIfS tc tt tNext { D with nx := nx } σ H) (hn : ∀ σ' H', P σ' H' → D.nx σ' H') : tIfS tc tt tNext D σ H := h D.nx hn
theorem log_nat {d : Nat} (h : d ≤ 1000) : (d : Int).natAbs.log2 < 1920 := by
  have e : (d : Int).natAbs = d := Int.natAbs_natCast d
  rw [e]
  have h1 : d.log2 < 10 := by
    by_cases c : d = 0
    · subst c
      decide
    · exact (Nat.log2_lt c).mpr (by omega)
  omega
theorem take_snoc {α : Type} {l : List α} {i : Nat} {x : α} (h : l[i]? = some x) : l.take (i + 1) = l.take i ++ [x] := by
  rw [List.take_add_one, h]
  rfl
theorem Keep.free {F : List Addr} {H H' : Hp} (k : Keep F H H') {t : Addr} (h : H' t = none) (hn : t ∉ F) : H t = none := by
  cases e : H t with
  | none => rfl
  | some u =>
    have := k t u e hn
    rw [h] at this
    cases this
theorem ixN_nat {n i : Nat} (h : i < n) : ixN n (i : Int) = some i := by
  unfold ixN
  rw [if_pos (by omega), if_pos (by omega)]
  rfl
def dV : V → PyData
  | .bl b => .bool b
  | .int i => .int i
  | .str x => .str x
  | _ => .none
def flS : V → Bool
  | .non => true
  | .bl _ => true
  | .int _ => true
  | .str x => PyData.canLay0 (.str x)
  | _ => false
theorem dp_flat {K : PySem.W.Frag} {H : Hp} {x : V} (h : flS x = true) : Dp K H x (dV x) := by
  cases x with
  | non => exact .non
  | bl b => exact .bl b
  | int i => exact .int i
  | str z => exact .str z
  | byt _ => cases h
  | flt _ => cases h
  | ref _ => cases h
  | ty _ => cases h
theorem dp_flats {K : PySem.W.Frag} {H : Hp} : ∀ (xs : List V), (∀ x ∈ xs, flS x = true) → DpAll K H xs (xs.map dV)
  | [], _ => .nil
  | x :: r, h => .cons (dp_flat (h x List.mem_cons_self)) (dp_flats r fun y hy => h y (List.mem_cons_of_mem _ hy))
theorem flat_lay : ∀ (xs : List V), (∀ x ∈ xs, flS x = true) → PyData.canLayAll0 (xs.map dV) = true
  | [], _ => by simp [PyData.canLayAll0]
  | x :: r, h => by
    have h1 := flat_lay r fun y hy => h y (List.mem_cons_of_mem _ hy)
    have h2 := h x List.mem_cons_self
    rw [List.map_cons]
    unfold PyData.canLayAll0
    rw [h1, Bool.and_true]
    cases x <;> first | rfl | exact h2 | cases h2 | (simp only [dV, PyData.canLay0])
theorem flat_depth : ∀ (xs : List V), PyData.depthAll (xs.map dV) = 0
  | [] => by simp [PyData.depthAll]
  | x :: r => by
    have h1 := flat_depth r
    have h2 : PyData.depth (dV x) = 0 := by cases x <;> simp [dV, PyData.depth]
    rw [List.map_cons]
    unfold PyData.depthAll
    rw [h1, h2]
    rfl
theorem flat_shaped {xs : List V} (h : ∀ x ∈ xs, flS x = true) : SeqAt.shaped (.list (xs.map dV)) = true := by
  have e : PyData.depth (.list (xs.map dV)) = 1 := by
    simp only [PyData.depth, flat_depth]
  have e2 : PyData.canLay0 (.list (xs.map dV)) = true := by
    simp only [PyData.canLay0]
    exact flat_lay xs h
  unfold SeqAt.shaped
  rw [e, e2]
  rfl
theorem eq_nil {K : PySem.W.Frag} {H : Hp} {p e : Addr} {xs : List V} {Q : VK} (hp : H p = some (.lst xs)) (he : H e = some (.lst [])) (hf : ∀ x ∈ xs, flS x = true) (q : Q (.bl xs.isEmpty) H) : rEqD K (.ref p) (.ref e) H Q := by
  refine ⟨.list (xs.map dV), .list [], .lst (SqL.of hp) (dp_flats xs hf), .lst (SqL.of he) .nil, flat_shaped hf, by decide, ?_⟩
  cases xs with
  | nil => exact q
  | cons x r => exact q
theorem ne_nil {K : PySem.W.Frag} {H : Hp} {p e : Addr} {xs : List V} {Q : VK} (hp : H p = some (.lst xs)) (he : H e = some (.lst [])) (hf : ∀ x ∈ xs, flS x = true) (q : Q (.bl (!xs.isEmpty)) H) : rNeD K (.ref p) (.ref e) H Q := by
  refine ⟨.list (xs.map dV), .list [], .lst (SqL.of hp) (dp_flats xs hf), .lst (SqL.of he) .nil, flat_shaped hf, by decide, ?_⟩
  cases xs with
  | nil => exact q
  | cons x r => exact q
theorem at_two {v : Int} (h0 : 0 ≤ v) (h1 : v < 2) (a b : V) : atI [a, b] v = some (if v = 0 then a else b) := by
  have : v = 0 ∨ v = 1 := by omega
  rcases this with rfl | rfl
  · rfl
  · rfl
theorem at_three {v : Int} (h0 : 0 ≤ v) (h1 : v < 3) (a b c : V) : atI [a, b, c] v = some (if v = 0 then a else if v = 1 then b else c) := by
  have : v = 0 ∨ v = 1 ∨ v = 2 := by omega
  rcases this with rfl | rfl | rfl
  · rfl
  · rfl
  · rfl
theorem at_four {v : Int} (h0 : 0 ≤ v) (h1 : v < 4) (a b c d : Str) : ∃ x, atI [V.str a, V.str b, V.str c, V.str d] v = some (.str x) ∧ (x = a ∨ x = b ∨ x = c ∨ x = d) := by
  have : v = 0 ∨ v = 1 ∨ v = 2 ∨ v = 3 := by omega
  rcases this with rfl | rfl | rfl | rfl
  · exact ⟨a, rfl, .inl rfl⟩
  · exact ⟨b, rfl, .inr (.inl rfl)⟩
  · exact ⟨c, rfl, .inr (.inr (.inl rfl))⟩
  · exact ⟨d, rfl, .inr (.inr (.inr rfl))⟩
theorem log59 {x : Int} (h0 : 0 - 10 ^ 59 ≤ x) (h1 : x < 10 ^ 59 + 1000) : x.natAbs.log2 < 1920 := by
  by_cases c : x.natAbs = 0
  · rw [c]
    decide
  · have h : x.natAbs < 2 ^ 1920 := by
      have e1 : (10 : Nat) ^ 59 + 1000 < 2 ^ 1920 := by decide +kernel
      have e2 : ((10 : Nat) ^ 59 : Int) = 10 ^ 59 := by norm_cast
      omega
    exact (Nat.log2_lt c).mpr h
theorem at_three_i {v : Int} (h0 : 0 ≤ v) (h1 : v < 3) : ∃ x : Int, atI [V.int 1, V.int 200, V.int ((10 : Int) ^ (59 : Int).toNat)] v = some (.int x) ∧ 1 ≤ x ∧ x ≤ 10 ^ 59 := by
  have : v = 0 ∨ v = 1 ∨ v = 2 := by omega
  rcases this with rfl | rfl | rfl
  · exact ⟨1, rfl, by decide, by decide +kernel⟩
  · exact ⟨200, rfl, by decide, by decide +kernel⟩
  · exact ⟨10 ^ 59, rfl, by decide +kernel, Int.le_refl _⟩
theorem intOk59 {x : Int} (h0 : 0 - 1 - 10 ^ 59 ≤ x) (h1 : x < 10 ^ 59 + 2000) : IntOk x := by
  unfold IntOk
  by_cases c : x.natAbs = 0
  · rw [c]
    decide
  · have h : x.natAbs < 2 ^ 1920 := by
      have e1 : (10 : Nat) ^ 59 + 2000 < 2 ^ 1920 := by decide +kernel
      have e2 : ((10 : Nat) ^ 59 : Int) = 10 ^ 59 := by norm_cast
      omega
    exact (Nat.log2_lt c).mpr h
theorem intOkS {x : Int} (h0 : 0 ≤ x) (h1 : x ≤ 1000) : IntOk x := by
  obtain ⟨n, rfl⟩ := Int.eq_ofNat_of_zero_le h0
  exact log_nat (by omega)
theorem deqT {z y : Str} (h : z = y) : decide (V.str z = V.str y) = true := decide_eq_true (by rw [h])
theorem deqF {z y : Str} (h : ¬ z = y) : decide (V.str z = V.str y) = false := decide_eq_false fun q => h (by injection q)
theorem dneT {z y : Str} (h : ¬ z = y) : (!decide (V.str z = V.str y)) = true := by rw [deqF h]; rfl
theorem dneF {z y : Str} (h : z = y) : (!decide (V.str z = V.str y)) = false := by rw [deqT h]; rfl
theorem one_le : ∀ v : V, [v].length ≤ sizeLine := fun v => by
  rw [sizeLine_eq]
  exact (by decide : 1 ≤ 16777216)
theorem deqI {x y : Int} (h : x = y) : decide (V.int x = V.int y) = true := decide_eq_true (by rw [h])
theorem dneI {x y : Int} (h : ¬ x = y) : decide (V.int x = V.int y) = false := decide_eq_false fun z => h (by injection z)
theorem ifE_join {t : TT} {ta tb : TE} {σ : L2.St} {H : Hp} {Q : VK} (P : V → Hp → Prop) (h : ∀ Q' : VK, (∀ v H', P v H' → Q' v H') → tIf t ta tb σ H Q') (hn : ∀ v H', P v H' → Q v H') : tIf t ta tb σ H Q := h Q hn
def LI (f : Nat → Int) (n : Nat) : List Int := (List.range n).map f
theorem LI_len (f : Nat → Int) (n : Nat) : (LI f n).length = n := by
  unfold LI
  rw [List.length_map, List.length_range]
theorem LI_at (f : Nat → Int) {n i : Nat} (h : i < n) : (LI f n)[i]? = some (f i) := by
  unfold LI
  rw [List.getElem?_map, List.getElem?_range h]
  rfl
theorem LI_succ (f : Nat → Int) (n : Nat) : LI f (n + 1) = LI f n ++ [f n] := by
  unfold LI
  rw [List.range_succ, List.map_append]
  rfl
theorem LI_congr {f g : Nat → Int} {n : Nat} (h : ∀ i, i < n → f i = g i) : LI f n = LI g n := by
  unfold LI
  exact List.map_congr_left fun i hi => h i (List.mem_range.mp hi)
theorem LI_take (f : Nat → Int) {n j : Nat} (h : j ≤ n) : (LI f n).take j = LI f j := by
  unfold LI
  rw [← List.map_take, List.take_range, Nat.min_eq_left h]
theorem mem_LI {f : Nat → Int} {n : Nat} {x : Int} : x ∈ LI f n ↔ ∃ i, i < n ∧ f i = x := by
  unfold LI
  rw [List.mem_map]
  exact ⟨fun ⟨i, h, e⟩ => ⟨i, List.mem_range.mp h, e⟩, fun ⟨i, h, e⟩ => ⟨i, List.mem_range.mpr h, e⟩⟩
def sumF (f : Nat → Int) : Nat → Int
  | 0 => 0
  | n + 1 => sumF f n + f n
theorem sum_snoc : ∀ (l : List Int) (x : Int), (l ++ [x]).sum = l.sum + x
  | [], x => by simp
  | y :: r, x => by
    rw [List.cons_append, List.sum_cons, sum_snoc r x, List.sum_cons]
    omega
theorem LI_sum (f : Nat → Int) : ∀ n : Nat, (LI f n).sum = sumF f n
  | 0 => rfl
  | n + 1 => by
    rw [LI_succ, sum_snoc, LI_sum f n]
    rfl
theorem sumF_congr {f g : Nat → Int} : ∀ {n : Nat}, (∀ i, i < n → f i = g i) → sumF f n = sumF g n
  | 0, _ => rfl
  | n + 1, h => by
    show sumF f n + f n = sumF g n + g n
    rw [sumF_congr fun i hi => h i (by omega), h n (by omega)]
theorem LI_set (f : Nat → Int) {n k : Nat} (v : Int) : (LI f n).set k v = LI (fun i => if i = k then v else f i) n := by
  refine List.ext_getElem? fun i => ?_
  by_cases hi : i < n
  · rw [LI_at _ hi]
    by_cases c : k = i
    · subst c
      rw [List.getElem?_set_self (by rw [LI_len]; exact hi), if_pos rfl]
    · rw [List.getElem?_set_ne c, LI_at _ hi, if_neg (fun z => c z.symm)]
  · rw [List.getElem?_eq_none (by rw [List.length_set, LI_len]; omega), List.getElem?_eq_none (by rw [LI_len]; omega)]
theorem sumF_set (f : Nat → Int) (k : Nat) (v : Int) : ∀ n : Nat, sumF (fun i => if i = k then v else f i) n = sumF f n + (if k < n then v - f k else 0)
  | 0 => by
    rw [if_neg (Nat.not_lt_zero _)]
    rfl
  | n + 1 => by
    show sumF _ n + (if n = k then v else f n) = sumF f n + f n + _
    rw [sumF_set f k v n]
    by_cases c : n = k
    · subst c
      rw [if_pos rfl, if_neg (Nat.lt_irrefl _), if_pos (Nat.lt_succ_self _)]
      omega
    · rw [if_neg c]
      by_cases c2 : k < n
      · rw [if_pos c2, if_pos (by omega)]
        omega
      · rw [if_neg c2, if_neg (by omega)]
        omega
theorem map_LI {α : Type} (d : α) (l : List α) (g : α → Int) : l.map g = LI (fun m => g (l.getD m d)) l.length := by
  refine List.ext_getElem? fun i => ?_
  by_cases hi : i < l.length
  · rw [LI_at _ hi, List.getElem?_map, List.getElem?_eq_getElem hi, List.getD_eq_getElem?_getD, List.getElem?_eq_getElem hi]
    rfl
  · rw [List.getElem?_eq_none (by rw [List.length_map]; omega), List.getElem?_eq_none (by rw [LI_len]; omega)]
def cap (lw hg : Nat → Int) (k : Nat) : Nat → Int
  | 0 => 0
  | j + 1 => cap lw hg k j + (if j = k then 0 else hg j - lw j)
theorem cap_eq (lw hg : Nat → Int) (k : Nat) : ∀ n : Nat, cap lw hg k n = sumF hg n - sumF lw n - (if k < n then hg k - lw k else 0)
  | 0 => by
    rw [if_neg (Nat.not_lt_zero _)]
    rfl
  | n + 1 => by
    show cap lw hg k n + (if n = k then 0 else hg n - lw n) = sumF hg n + hg n - (sumF lw n + lw n) - _
    rw [cap_eq lw hg k n]
    by_cases c : n = k
    · subst c
      rw [if_pos rfl, if_neg (Nat.lt_irrefl _), if_pos (Nat.lt_succ_self _)]
      omega
    · rw [if_neg c]
      by_cases c2 : k < n
      · rw [if_pos c2, if_pos (by omega)]
        omega
      · rw [if_neg c2, if_neg (by omega)]
        omega
theorem cap_nn {lw hg : Nat → Int} {k : Nat} : ∀ {n : Nat}, (∀ i, i < n → lw i ≤ hg i) → 0 ≤ cap lw hg k n
  | 0, _ => Int.le_refl _
  | n + 1, h => by
    have h1 := cap_nn (lw := lw) (hg := hg) (k := k) (n := n) fun i hi => h i (by omega)
    have h2 := h n (by omega)
    show 0 ≤ cap lw hg k n + (if n = k then 0 else hg n - lw n)
    by_cases c : n = k
    · rw [if_pos c]
      omega
    · rw [if_neg c]
      omega
theorem sumF_le {lw hg : Nat → Int} : ∀ {n : Nat}, (∀ i, i < n → lw i ≤ hg i) → sumF lw n ≤ sumF hg n
  | 0, _ => Int.le_refl _
  | n + 1, h => by
    have h1 := sumF_le (lw := lw) (hg := hg) (n := n) fun i hi => h i (by omega)
    have h2 := h n (by omega)
    show sumF lw n + lw n ≤ sumF hg n + hg n
    omega
theorem sumF_bound {f : Nat → Int} {b : Int} : ∀ {n : Nat}, (∀ i, i < n → 0 ≤ f i ∧ f i ≤ b) → 0 ≤ sumF f n ∧ sumF f n ≤ (n : Int) * b
  | 0, _ => by
    constructor
    · exact Int.le_refl _
    · show (0 : Int) ≤ ((0 : Nat) : Int) * b
      simp
  | n + 1, h => by
    obtain ⟨h1, h2⟩ := sumF_bound (f := f) (b := b) (n := n) fun i hi => h i (by omega)
    have h3 := h n (by omega)
    have e : ((n + 1 : Nat) : Int) * b = (n : Int) * b + b := by
      rw [Int.natCast_succ, Int.add_mul, Int.one_mul]
    rw [e]
    show 0 ≤ sumF f n + f n ∧ sumF f n + f n ≤ (n : Int) * b + b
    omega
def bLo (SH : Int) (c : Option Int) (low high : Int) : Int := match c with
  | none => low
  | some c => if high - (SH - c) > low then high - (SH - c) else low
def bHi (SL : Int) (c : Option Int) (low high : Int) : Int := match c with
  | none => high
  | some c => if low + (c - SL) < high then low + (c - SL) else high
def badC (SL SH : Int) (c : Option Int) : Prop := ∃ x, c = some x ∧ (x < SL ∨ x > SH)
def cV : Option Int → V
  | some d => .int d
  | none => .non
structure TA (H : Hp) (ts : List Addr) (n : Nat) (f : Nat → List V) : Prop where
  len : ts.length = n
  at_ : ∀ (i : Nat) (t : Addr), ts[i]? = some t → H t = some (.tup (f i))
theorem TA.same {H H' : Hp} {ts : List Addr} {n : Nat} {f : Nat → List V} (h : TA H ts n f) (s : Same H H') : TA H' ts n f := ⟨h.len, fun i t e => s _ _ (h.at_ i t e)⟩
theorem TA.nil (H : Hp) (f : Nat → List V) : TA H [] 0 f := ⟨rfl, fun i t e => by simp at e⟩
theorem TA.snoc {H : Hp} {ts : List Addr} {n : Nat} {f : Nat → List V} {t : Addr} (h : TA H ts n f) (e : H t = some (.tup (f n))) : TA H (ts ++ [t]) (n + 1) f := by
  refine ⟨by rw [List.length_append, h.len]; rfl, fun i t' a => ?_⟩
  by_cases c : i < ts.length
  · rw [List.getElem?_append_left c] at a
    exact h.at_ i t' a
  · rw [List.getElem?_append_right (by omega)] at a
    have hi := (List.getElem?_eq_some_iff.mp a).1
    simp only [List.length_cons, List.length_nil] at hi
    have hi : i = n := by
      have := h.len
      omega
    subst hi
    rw [h.len, Nat.sub_self] at a
    cases a
    exact e
theorem TA.get {H : Hp} {ts : List Addr} {n : Nat} {f : Nat → List V} (h : TA H ts n f) {i : Nat} (hi : i < n) : ∃ t, ts[i]? = some t ∧ H t = some (.tup (f i)) := by
  have : i < ts.length := by rw [h.len]; exact hi
  exact ⟨_, List.getElem?_eq_getElem this, h.at_ i _ (List.getElem?_eq_getElem this)⟩
theorem TA.congr {H : Hp} {ts : List Addr} {n : Nat} {f g : Nat → List V} (h : TA H ts n f) (e : ∀ i, i < n → f i = g i) : TA H ts n g := ⟨h.len, fun i t a => by
  have hi := (List.getElem?_eq_some_iff.mp a).1
  rw [h.len] at hi
  rw [← e i hi]
  exact h.at_ i t a⟩
theorem TA.put {H : Hp} {ts : List Addr} {n : Nat} {f : Nat → List V} {D : Addr} {xs : List V} {u : HO} (h : TA H ts n f) (e : H D = some (.lst xs) ∨ H D = none) : TA (upd H D u) ts n f := ⟨h.len, fun i t a => by
  have q := h.at_ i t a
  rw [upd_ne (fun z => by rw [z] at q; rcases e with e | e <;> rw [e] at q <;> cases q)]
  exact q⟩
theorem lenSeq_K {X : Cx} {K : PySem.W.Frag} (h : X.K = K) : CallR X (.builtin "len") (fun xs H Q => ∃ p ys, xs = [.ref p] ∧ (SqL K H p ys ∨ SqT K H p ys) ∧ Q (.int ys.length) H) := h ▸ call_len_seq
theorem pg_tupK {X : Cx} {K : PySem.W.Frag} {es : List Expr} {k : Nat} {t : TGs} {n : Nat} {pos : Pos} (hK : X.K = K) (hc : X.calm = true) (h : PGs X es t) (hn : (assignEach es X.env).length = n := by rfl) (hst : (assignEach es X.env).findIdx? (·.1) = none := by rfl) : PG X (.Tuple es k pos) (gTup K n t) := hK ▸ pg_tup hc h hn hst
def cOk (c : Option Int) : Prop := ∀ x, c = some x → IntOk x
def rng (a b : Int) : List Int := LI (fun i => a + (i : Int)) (b + 1 - a).toNat
theorem mem_rng {a b x : Int} : x ∈ rng a b ↔ a ≤ x ∧ x ≤ b := by
  unfold rng
  rw [mem_LI]
  constructor
  · rintro ⟨i, h, e⟩
    have e : a + (i : Int) = x := e
    omega
  · rintro ⟨h1, h2⟩
    exact ⟨(x - a).toNat, by omega, by show a + (((x - a).toNat : Nat) : Int) = x; omega⟩
theorem rng_len (a b : Int) : (rng a b).length = (b + 1 - a).toNat := LI_len _ _
theorem LI_cons (f : Nat → Int) (n : Nat) : LI f (n + 1) = f 0 :: LI (fun i => f (i + 1)) n := by
  refine List.ext_getElem? fun i => ?_
  cases i with
  | zero => rw [LI_at _ (by omega)]; rfl
  | succ i =>
    rw [List.getElem?_cons_succ]
    by_cases h : i < n
    · rw [LI_at _ (by omega), LI_at _ h]
    · rw [List.getElem?_eq_none (by rw [LI_len]; omega), List.getElem?_eq_none (by rw [LI_len]; omega)]
theorem rng_cons {a b : Int} (h : a ≤ b) : rng a b = a :: rng (a + 1) b := by
  unfold rng
  rw [show (b + 1 - a).toNat = (b + 1 - (a + 1)).toNat + 1 by omega, LI_cons]
  congr 1
  · show a + ((0 : Nat) : Int) = a
    omega
  · exact LI_congr fun i _ => by show a + ((i + 1 : Nat) : Int) = a + 1 + (i : Int); omega
theorem rng_nil {a b : Int} (h : b < a) : rng a b = [] := by
  unfold rng
  rw [show (b + 1 - a).toNat = 0 by omega]
  rfl
def mx (x y : Int) : Int := if y > x then y else x
def mn (x y : Int) : Int := if y < x then y else x
theorem mx_le {x y z : Int} : mx x y ≤ z ↔ x ≤ z ∧ y ≤ z := by
  unfold mx
  by_cases h : y > x
  · rw [if_pos h]; omega
  · rw [if_neg h]; omega
theorem le_mn {x y z : Int} : z ≤ mn x y ↔ z ≤ x ∧ z ≤ y := by
  unfold mn
  by_cases h : y < x
  · rw [if_pos h]; omega
  · rw [if_neg h]; omega
structure TL (H : Hp) (ts : List Addr) (ws : List (List Int)) : Prop where
  len : ts.length = ws.length
  at_ : ∀ (i : Nat) (t : Addr) (x : List Int), ts[i]? = some t → ws[i]? = some x → H t = some (.tup (x.map V.int))
theorem TL.same {H H' : Hp} {ts : List Addr} {ws : List (List Int)} (h : TL H ts ws) (s : Same H H') : TL H' ts ws := ⟨h.len, fun i t x e f => s _ _ (h.at_ i t x e f)⟩
theorem TL.nil (H : Hp) : TL H [] [] := ⟨rfl, fun i t x e => by simp at e⟩
theorem TL.snoc {H : Hp} {ts : List Addr} {ws : List (List Int)} {t : Addr} {x : List Int} (h : TL H ts ws) (e : H t = some (.tup (x.map V.int))) : TL H (ts ++ [t]) (ws ++ [x]) := by
  refine ⟨by rw [List.length_append, List.length_append, h.len]; rfl, fun i t' x' a b => ?_⟩
  by_cases c : i < ts.length
  · rw [List.getElem?_append_left c] at a
    rw [List.getElem?_append_left (by rw [← h.len]; exact c)] at b
    exact h.at_ i t' x' a b
  · rw [List.getElem?_append_right (by omega)] at a
    rw [List.getElem?_append_right (by rw [← h.len]; omega)] at b
    have hi := (List.getElem?_eq_some_iff.mp a).1
    simp only [List.length_cons, List.length_nil] at hi
    have hi : i = ts.length := by omega
    rw [← h.len] at b
    rw [hi, Nat.sub_self] at a b
    cases a
    cases b
    exact e
theorem TL.put {H : Hp} {ts : List Addr} {ws : List (List Int)} {D : Addr} {u : HO} (h : TL H ts ws) (e : (∃ xs, H D = some (.lst xs)) ∨ H D = none) : TL (upd H D u) ts ws := ⟨h.len, fun i t x a b => by
  have q := h.at_ i t x a b
  rw [upd_ne (fun z => by
    rw [z] at q
    rcases e with ⟨xs, e⟩ | e <;> rw [e] at q <;> cases q)]
  exact q⟩
theorem TL.get {H : Hp} {ts : List Addr} {ws : List (List Int)} (h : TL H ts ws) {i : Nat} {t : Addr} (e : ts[i]? = some t) : ∃ x, ws[i]? = some x ∧ H t = some (.tup (x.map V.int)) := by
  have hi := (List.getElem?_eq_some_iff.mp e).1
  rw [h.len] at hi
  exact ⟨_, List.getElem?_eq_getElem hi, h.at_ i t _ e (List.getElem?_eq_getElem hi)⟩
theorem TL.get2 {H : Hp} {ts : List Addr} {ws : List (List Int)} (h : TL H ts ws) {i : Nat} {x : List Int} (e : ws[i]? = some x) : ∃ t, ts[i]? = some t ∧ H t = some (.tup (x.map V.int)) := by
  have hi := (List.getElem?_eq_some_iff.mp e).1
  rw [← h.len] at hi
  exact ⟨_, List.getElem?_eq_getElem hi, h.at_ i _ x (List.getElem?_eq_getElem hi) e⟩
def rSumT (K : PySem.W.Frag) : List V → Hp → VK → Prop := fun vs H Q => ∃ (a : Addr) (ns : List Int), vs = [V.ref a] ∧ SqT K H a (ns.map V.int) ∧ Q (.int ns.sum) H
theorem cr_sumT {X : Cx} (hc : X.calm = true) : CallR X (.builtin "sum") (rSumT X.K) := by
  intro pins s σ H vs us Q I r h
  obtain ⟨a, ns, rfl, hs, q⟩ := h
  obtain ⟨its, rv, hl, _⟩ := I.tuple hs
  rw [Vals.ref1 r]
  have hi := rv.ints
  obtain ⟨xs, e⟩ := hi.allInts.items
  have hn : numsOf (intItems xs).toList = ns := by rw [← e]; exact hi.numsOf
  rw [nums_intItems] at hn
  rw [e] at hl
  refine PySem.W.ktm_sumG (I.ok.hd hc) (show s.heap.IsTuple a (intItems xs) from hl) fun h' tk t' hk => ⟨.int _, H, I.kept hk, ⟨_, rfl⟩, ?_⟩
  rw [preSum_eq, List.take_of_length_le (by simp), hn]
  exact q
theorem cr_sumT_K {X : Cx} {K : PySem.W.Frag} (hK : X.K = K) (hc : X.calm = true) : CallR X (.builtin "sum") (rSumT K) := hK ▸ cr_sumT hc
theorem pi_listK {X : Cx} {K : PySem.W.Frag} {tg l : Expr} {tl : TE} (hK : X.K = K) (hl : PE X l tl) : PI X tg l (iList K tl) := hK ▸ pi_list hl
theorem out_it {J : It} {n : Nat} {G : Hp → Prop} {Y : Nat → Hp → V → Hp → Prop} (w : Walk J n G Y) {B : V → Hp → (Hp → Prop) → Prop} {H0 : Hp} {Qd : Hp → Prop} (Pv : Nat → Hp → Prop) (h0 : Pv 0 H0) (hG : ∀ i H, i ≤ n → Pv i H → G H)
    (hs : ∀ i x H H', i < n → Pv i H → Y i H x H' → B x H' (Pv (i + 1))) (hd : ∀ H, Pv n H → Qd H) :
    ∃ W : Nat → Nat → Hp → Prop, (∃ m, W 0 m H0) ∧ ∀ i m H, W i m H →
      (J.stop i H ∧ Qd H) ∨ (J.go i H ∧ ∃ Nx : Hp → Prop, (∀ H', Nx H' → ∃ m', m' < m ∧ W (i + 1) m' H') ∧ ∀ x H', J.yld i H x H' → B x H' Nx) := by
  refine ⟨fun i m H => m = n - i ∧ i ≤ n ∧ Pv i H, ⟨n, by simp, Nat.zero_le _, h0⟩, ?_⟩
  rintro i m H ⟨rfl, hi, p⟩
  have q := hG i H hi p
  by_cases hlt : i < n
  · exact .inr ⟨w.goes i H hlt q, Pv (i + 1), fun H' p' => ⟨n - (i + 1), by omega, rfl, hlt, p'⟩, fun x H' y => hs i x H H' hlt p (w.yields i H x H' hlt q y)⟩
  · have e : i = n := by omega
    subst e
    exact .inl ⟨w.stops H q, hd H p⟩
theorem rgV_rng (a b : Int) : rgV a (b + 1) = (rng a b).map V.int := by
  unfold rgV rng LI
  rw [List.map_map]
  rfl
theorem sum_app : ∀ (l m : List Int), (l ++ m).sum = l.sum + m.sum
  | [], m => by simp
  | x :: r, m => by
    rw [List.cons_append, List.sum_cons, List.sum_cons, sum_app r m]
    omega
theorem drop_sum (f : Nat → Int) {n j : Nat} (h : j ≤ n) : ((LI f n).drop j).sum = sumF f n - sumF f j := by
  have e := sum_app ((LI f n).take j) ((LI f n).drop j)
  rw [List.take_append_drop, LI_take f h, LI_sum, LI_sum] at e
  omega
theorem log_abs {x : Int} {d : Nat} (e : x.natAbs = d) (h : d ≤ 4000) : x.natAbs.log2 < 1920 := by
  rw [e]
  have h1 : d.log2 < 12 := by
    by_cases c : d = 0
    · subst c
      decide
    · exact (Nat.log2_lt c).mpr (by omega)
  omega
theorem cOk_of {x : Int} (h : x.natAbs ≤ 4000) : cOk (some x) := fun y e => by
  cases e
  exact log_abs rfl h
theorem cOk_none : cOk none := fun y e => by cases e
theorem cOk_int {x : Int} (h : IntOk x) : cOk (some x) := fun y e => by
  cases e
  exact h
theorem ifS_test {tc : TT} {tt te : TS} {D : Ends} {σ : L2.St} {H : Hp} (b : Bool) (h : ∀ Q : Bool → Hp → Prop, (∀ H', Same H H' → Q b H') → tc σ H Q) (hn : ∀ H', Same H H' → if b = true then tt D σ H' else te D σ H') : tIfS tc tt te D σ H :=
  h (fun b H1 => if b = true then tt D σ H1 else te D σ H1) hn
def dw (x : List Int) : PyData := .tuple ((x.map V.int).map dV)
theorem dp_worlds {K : PySem.W.Frag} {H : Hp} : ∀ (ts : List Addr) (ws : List (List Int)), TL H ts ws → DpAll K H (ts.map V.ref) (ws.map dw)
  | [], [], _ => .nil
  | [], x :: r, h => by cases h.len
  | t :: r, [], h => by cases h.len
  | t :: r, x :: l, h => .cons (.tup (SqT.of (h.at_ 0 t x rfl rfl)) (dp_flats _ fun y hy => by
      obtain ⟨z, _, rfl⟩ := List.mem_map.mp hy
      rfl)) (dp_worlds r l ⟨Nat.succ.inj h.len, fun i t' x' e f => h.at_ (i + 1) t' x' e f⟩)
theorem ints_fl (x : List Int) : ∀ y ∈ x.map V.int, flS y = true := fun y hy => by
  obtain ⟨z, _, rfl⟩ := List.mem_map.mp hy
  rfl
theorem lay_worlds : ∀ ws : List (List Int), PyData.canLayAll0 (ws.map dw) = true
  | [] => by simp [PyData.canLayAll0]
  | x :: r => by
    have h1 := lay_worlds r
    rw [List.map_cons]
    unfold PyData.canLayAll0
    rw [h1, Bool.and_true]
    unfold dw
    simp only [PyData.canLay0]
    exact flat_lay _ (ints_fl x)
theorem depth_worlds : ∀ ws : List (List Int), PyData.depthAll (ws.map dw) ≤ 1
  | [] => by simp [PyData.depthAll]
  | x :: r => by
    have h1 := depth_worlds r
    have h2 : PyData.depth (dw x) = 1 := by
      unfold dw
      simp only [PyData.depth, flat_depth]
    rw [List.map_cons]
    unfold PyData.depthAll
    rw [h2]
    omega
def blk (f : Int) (k : Nat) : List Int := (List.range k).map fun (j : Nat) => f + (j : Int)
theorem blk_succ (f : Int) (k : Nat) : blk f (k + 1) = blk f k ++ [f + (k : Int)] := by
  unfold blk
  rw [List.range_succ, List.map_append]
  rfl
theorem mem_blk {f : Int} {k : Nat} {x : Int} : x ∈ blk f k ↔ f ≤ x ∧ x < f + (k : Int) := by
  unfold blk
  rw [List.mem_map]
  constructor
  · rintro ⟨j, hj, rfl⟩
    have := List.mem_range.mp hj
    omega
  · rintro ⟨h1, h2⟩
    exact ⟨(x - f).toNat, List.mem_range.mpr (by omega), by omega⟩
theorem nodup_blk (f : Int) : ∀ k : Nat, (blk f k).Nodup
  | 0 => List.nodup_nil
  | k + 1 => by
    rw [blk_succ, List.nodup_append]
    refine ⟨nodup_blk f k, by simp, fun x hx y hy => ?_⟩
    have h1 := mem_blk.mp hx
    have h2 : y = f + (k : Int) := by simpa using hy
    omega
theorem blk_length (f : Int) (k : Nat) : (blk f k).length = k := by
  unfold blk
  rw [List.length_map, List.length_range]
theorem rgV_blk (f : Int) (k : Nat) : rgV f (f + (k : Int)) = (blk f k).map V.int := by
  unfold rgV blk
  rw [List.map_map, show (f + (k : Int) - f).toNat = k by omega]
  rfl
end Nu
namespace Nu
open PySem PySem.Spec PyProof.Rows L2
/-- the draws' state s, of the script sc -/
structure Drw (K : PySem.W.Frag) (H : Hp) (s sc : Addr) (ns : List Int) : Prop where
  sq : SqL K (fun _ => none) sc (ns.map V.int) ∨ (Rd H sc (.lst (ns.map V.int)) ∧ sc ≠ s)
  at_ : ∃ i m r : Int, H s = some (.lst [.ref sc, .int i, .int m, .int r]) ∧ 0 ≤ i ∧ 0 ≤ m ∧ 0 ≤ r
theorem sq_written {K : PySem.W.Frag} {H : Hp} {c : Addr} {xs : List V} (h : SqL K (fun _ => none) c xs) : SqL K H c xs := by
  rcases h with (h | ⟨o, h⟩) | h
  · cases h
  · cases h
  · exact .inr h
theorem Drw.seq {K : PySem.W.Frag} {H : Hp} {s sc : Addr} {ns : List Int} (d : Drw K H s sc ns) : SqL K H sc (ns.map V.int) := d.sq.elim sq_written fun h => .inl h.1
theorem Keep.rd {F : List Addr} {H H' : Hp} {c : Addr} {u : HO} (k : Keep F H H') (h : Rd H c u) (hc : c ∉ F) : Rd H' c u := by
  rcases h with h | ⟨o, h⟩
  · exact .inl (k _ _ h hc)
  · exact .inr ⟨o, k _ _ h hc⟩
/-- the state's own list changed -/
theorem Drw.upd {K : PySem.W.Frag} {H : Hp} {s sc : Addr} {ns : List Int} (d : Drw K H s sc ns) {i m r : Int} (hi : 0 ≤ i) (hm : 0 ≤ m) (hr : 0 ≤ r) : Drw K (L2.upd H s (.lst [.ref sc, .int i, .int m, .int r])) s sc ns :=
  ⟨d.sq.elim .inl fun h => .inr ⟨(keep_upd (F := [s]) (.inl (List.mem_singleton.mpr rfl))).rd h.1 (fun z => h.2 (List.mem_singleton.mp z)), h.2⟩, i, m, r, upd_same, hi, hm, hr⟩
theorem Drw.stay {K : PySem.W.Frag} {H H' : Hp} {s sc : Addr} {ns : List Int} {F : List Addr} (d : Drw K H s sc ns) (k : Keep F H H') (h1 : s ∉ F) (h2 : H sc ≠ none → sc ∉ F) : Drw K H' s sc ns := by
  obtain ⟨i, m, r, e, h⟩ := d.at_
  refine ⟨d.sq.elim .inl fun q => .inr ⟨k.rd q.1 (h2 ?_), q.2⟩, i, m, r, k _ _ e h1, h⟩
  rcases q.1 with z | ⟨o, z⟩ <;> rw [z] <;> simp
section
variable {P : Program} {w : World} {K : PySem.W.Frag} {mg : Str → Option Value} {base : Heap} {a : Ad} {fd : Fd}
def spStart (K : PySem.W.Frag) : Sp := fun vs H Q _ => ∃ (sc : Addr) (ns : List Int), vs = [.ref sc] ∧ SqL K H sc (ns.map V.int) ∧ ∀ s H', H s = none → Same H H' → Drw K H' s sc ns → Q (.ref s) H'
theorem ok_l_start (T : Txt K mg a fd) : FnOk P w K mg base CX0 1 a.l_start fd.l_start ["_law_script"] (spStart K) := by
  refine T.F_l_start.ok sc_l_start (fun vs H Q E h => ?_) (fun cdv A outer s H vs Q E hr h => ?_)
  · obtain ⟨sc, ns, rfl, _⟩ := h
    rfl
  · obtain ⟨sc, ns, rfl, hS, k⟩ := h
    refine ⟨_, (pss_cons (ps_set (i := 1) sc_l_start.nd rfl (Or.inl rfl) pe_int)
    (pss_cons (ps_for PassesOwn.never rfl (pi_list (pv 0)) (pg_name (i := 2) sc_l_start.nd rfl (Or.inl rfl))
      (pss_one (ps_set (i := 1) sc_l_start.nd rfl (Or.inl rfl) (pe_op op_mod (pe_op op_add (pe_op op_add (pe_op op_mul (pv 1) pe_int) (pv 2)) pe_int) pe_int))))
    (pss_one (ps_ret (pe_lst (pa_cons (pv 0) (pa_cons pe_int (pa_cons (pv 1) (pa_cons pe_int pa_nil))))))))), ?_⟩
    refine ⟨_, rfl, sc, rfl, ⟨_, hS⟩, for_list (K := K) (a := sc) (xs := ns.map V.int) (fun i σ H' => ∃ (m : Int) (v : Option V), σ = [some (.ref sc), some (.int m), v] ∧ H' = H ∧ 0 ≤ m) ⟨1, none, rfl, rfl, by decide⟩ (fun i σ H' _ ⟨_, _, _, e, _⟩ => by rw [e]; exact hS) ?_ ?_⟩
    · rintro i x σ H' hi ⟨m, v, rfl, rfl, hm⟩
      obtain ⟨n, hn, rfl⟩ := map_int_at hi
      refine ⟨_, rfl, _, _, rfl, rfl, .inr (by decide), _, rfl, _, _, rfl, rfl, _, _, rfl, rfl, _, _, rfl, rfl, (by show (0 : Int) < 2147483647; decide), ?_⟩
      exact ⟨_, _, rfl, rfl, Int.emod_nonneg _ (by decide)⟩
    · rintro σ H' ⟨m, v, rfl, rfl, hm⟩
      refine ⟨_, rfl, _, rfl, (by show 4 ≤ sizeLine; decide), fun s ns' => ?_⟩
      refine k s _ ns' (same_upd ns') ⟨?_, 0, m, 0, upd_same, by decide, hm, by decide⟩
      rcases hS with hS | hS
      · refine .inr ⟨(Keep.same (F := []) (same_upd ns')).rd hS (by simp), fun z => ?_⟩
        rcases hS with q | ⟨o, q⟩ <;> rw [z, ns'] at q <;> cases q
      · exact .inl (.inr hS)
def spDrawn (K : PySem.W.Frag) : Sp := fun vs H Q _ => ∃ (s sc : Addr) (ns : List Int) (n : Int), vs = [.ref s, .int n] ∧ Drw K H s sc ns ∧ 1 ≤ n ∧ n.natAbs.log2 < 9000 ∧ ∀ v H', 0 ≤ v → v < n → Keep [s] H H' → Drw K H' s sc ns → Q (.int v) H'
theorem at0 {α : Type} {x0 x1 x2 x3 : α} : atI [x0, x1, x2, x3] 0 = some x0 := rfl
theorem at1 {α : Type} {x0 x1 x2 x3 : α} : atI [x0, x1, x2, x3] 1 = some x1 := rfl
theorem at2 {α : Type} {x0 x1 x2 x3 : α} : atI [x0, x1, x2, x3] 2 = some x2 := rfl
theorem at3 {α : Type} {x0 x1 x2 x3 : α} : atI [x0, x1, x2, x3] 3 = some x3 := rfl
theorem ok_l_drawn (T : Txt K mg a fd) : FnOk P w K mg base CX0 1 a.l_drawn fd.l_drawn ["_law_state", "_law_many"] (spDrawn K) := by
  refine T.F_l_drawn.ok sc_l_drawn (fun vs H Q E h => ?_) (fun cdv A outer s H vs Q E hr h => ?_)
  · obtain ⟨s, sc, ns, n, rfl, _⟩ := h
    rfl
  · obtain ⟨s, sc, ns, n, rfl, D, hn, hlog, k⟩ := h
    obtain ⟨i, m, r, e, i0, m0, r0⟩ := D.at_
    have n0 : (0 : Int) < n := by omega
    have kp : ∀ (H : Hp) (u : HO), Keep [s] H (upd H s u) := fun H u => keep_upd (.inl (List.mem_singleton.mpr rfl))
    refine ⟨_, (pss_cons (ps_if (pt_cmpR op_gt (pe_ix ix_list (pv 0) pe_int (fun _ _ => rfl)) pe_int (nomark _)) (pss_cons (ps_set (i := 2) sc_l_drawn.nd rfl (Or.inl rfl) (pe_op op_mod (pe_ix ix_list (pv 0) pe_int (fun _ _ => rfl)) (pv 1)))
    (pss_cons (ps_asg (pe_op op_fdivW (pe_ix ix_list (pv 0) pe_int (fun _ _ => rfl)) (pv 1)) (pg_sub (pv 0) pe_int set_list))
    (pss_one (ps_ret (pv 2))))) pss_nil)
    (pss_cons (ps_asg (pe_op op_add (pe_ix ix_list (pv 0) pe_int (fun _ _ => rfl)) pe_int) (pg_sub (pv 0) pe_int set_list))
    (pss_cons (ps_if (pt_cmpR op_le (pe_ix ix_list (pv 0) pe_int (fun _ _ => rfl)) (pe_callB call_len_seq (by rfl) T.n_len PySem.boot_len (pa_cons (pe_ix ix_list (pv 0) pe_int (fun _ _ => rfl)) pa_nil)) (nomark _)) (pss_cons (ps_set (i := 3) sc_l_drawn.nd rfl (Or.inl rfl) (pe_ix ix_list (pe_ix ix_list (pv 0) pe_int (fun _ _ => rfl)) (pe_op op_sub (pe_ix ix_list (pv 0) pe_int (fun _ _ => rfl)) pe_int) (fun _ _ => rfl)))
    (pss_cons (ps_asg (pe_ifExp (pt_cmpR op_ge (pv 3) (pe_op op_pow pe_int pe_int) (nomark _)) (pe_op op_fdivW (pv 3) (pv 1)) pe_int) (pg_sub (pv 0) pe_int set_list))
    (pss_one (ps_ret (pe_op op_mod (pv 3) (pv 1)))))) pss_nil)
    (pss_cons (ps_asg (pe_op op_mod (pe_op op_add (pe_op op_mul (pe_ix ix_list (pv 0) pe_int (fun _ _ => rfl)) pe_int) pe_int) pe_int) (pg_sub (pv 0) pe_int set_list))
    (pss_one (ps_ret (pe_op op_mod (pe_op op_fdiv (pe_ix ix_list (pv 0) pe_int (fun _ _ => rfl)) pe_int) (pv 1)))))))), ?_⟩
    refine ⟨_, rfl, s, _, 3, _, rfl, rfl, SqL.of e, at3, _, _, rfl, rfl, _, rfl, ?_⟩
    by_cases c : 0 < r
    · rw [decide_eq_true c]
      refine iteT ?_
      refine ⟨_, rfl, s, _, 3, _, rfl, rfl, SqL.of e, at3, _, rfl, _, _, rfl, rfl, n0, ?_⟩
      refine ⟨_, rfl, s, _, 3, _, rfl, rfl, SqL.of e, at3, _, rfl, _, _, rfl, rfl, ⟨n0, hlog⟩, ?_⟩
      refine ⟨_, rfl, s, _, 3, 3, rfl, rfl, e, rfl, ?_⟩
      refine ⟨_, rfl, k _ _ (Int.emod_nonneg _ (by omega)) (Int.emod_lt_of_pos _ n0) (kp _ _) (D.upd i0 m0 (Int.ediv_nonneg r0 (by omega)))⟩
    · rw [decide_eq_false c]
      refine iteF ?_
      refine ⟨_, rfl, s, _, 1, _, rfl, rfl, SqL.of e, at1, _, _, rfl, rfl, ?_⟩
      refine ⟨_, rfl, s, _, 1, 1, rfl, rfl, e, rfl, ?_⟩
      have e1 : (upd H s (.lst ([V.ref sc, V.int i, V.int m, V.int r].set 1 (V.int (i + 1))))) s = some (.lst [.ref sc, .int (i + 1), .int m, .int r]) := upd_same
      have D1 : Drw K (upd H s (.lst ([V.ref sc, V.int i, V.int m, V.int r].set 1 (V.int (i + 1))))) s sc ns := D.upd (i := i + 1) (by omega) m0 r0
      have sq1 := D1.seq
      refine ⟨_, rfl, s, _, 1, _, rfl, rfl, SqL.of e1, at1, _, rfl, s, _, 0, _, rfl, rfl, SqL.of e1, at0, sc, _, rfl, .inl sq1, _, _, rfl, rfl, _, rfl, ?_⟩
      by_cases c2 : i + 1 ≤ ((ns.map V.int).length : Int)
      · rw [decide_eq_true c2]
        refine iteT ?_
        rw [List.length_map] at c2
        obtain ⟨j, rfl⟩ := Int.eq_ofNat_of_zero_le i0
        have hj : j < ns.length := by omega
        have hc : (ns.map V.int)[j]? = some (V.int ns[j]) := by rw [List.getElem?_map, List.getElem?_eq_getElem hj]; rfl
        refine ⟨_, rfl, s, _, 0, _, rfl, rfl, SqL.of e1, at0, _, rfl, s, _, 1, _, rfl, rfl, SqL.of e1, at1, _, _, rfl, rfl, sc, _, _, _, rfl, rfl, sq1, (by rw [show (j : Int) + 1 - 1 = (j : Int) by omega]; exact atI_nat hc), ?_⟩
        refine ⟨_, rfl, _, _, rfl, rfl, ⟨by decide, by decide, by decide⟩, _, _, rfl, rfl, _, rfl, ?_⟩
        by_cases c3 : (10 : Int) ^ (18 : Int).toNat ≤ ns[j]
        · rw [decide_eq_true c3]
          refine iteT ?_
          refine ⟨_, rfl, _, rfl, _, _, rfl, rfl, ⟨n0, hlog⟩, ?_⟩
          refine ⟨_, rfl, s, _, 3, 3, rfl, rfl, e1, rfl, ?_⟩
          refine ⟨_, rfl, _, rfl, _, _, rfl, rfl, n0, ?_⟩
          exact k _ _ (Int.emod_nonneg _ (by omega)) (Int.emod_lt_of_pos _ n0) ((kp _ _).trans (kp _ _)) (D1.upd (by omega) m0 (Int.ediv_nonneg (Int.le_trans (by decide) c3) (by omega)))
        · rw [decide_eq_false c3]
          refine iteF ?_
          refine ⟨_, rfl, s, _, 3, 3, rfl, rfl, e1, rfl, ?_⟩
          refine ⟨_, rfl, _, rfl, _, _, rfl, rfl, n0, ?_⟩
          exact k _ _ (Int.emod_nonneg _ (by omega)) (Int.emod_lt_of_pos _ n0) ((kp _ _).trans (kp _ _)) (D1.upd (by omega) m0 (Int.le_refl _))
      · rw [decide_eq_false c2]
        refine iteF ?_
        refine ⟨_, rfl, s, _, 2, _, rfl, rfl, SqL.of e1, at2, _, _, rfl, rfl, .inr (by decide), _, _, rfl, rfl, _, _, rfl, rfl, (by show (0 : Int) < 2147483647; decide), ?_⟩
        refine ⟨_, rfl, s, _, 2, 2, rfl, rfl, e1, rfl, ?_⟩
        refine ⟨_, rfl, s, _, 2, _, rfl, rfl, SqL.of upd_same, at2, _, _, rfl, rfl, ⟨by decide, by decide⟩, _, rfl, _, _, rfl, rfl, n0, ?_⟩
        exact k _ _ (Int.emod_nonneg _ (by omega)) (Int.emod_lt_of_pos _ n0) ((kp _ _).trans (kp _ _)) (D1.upd (by omega) (Int.emod_nonneg _ (by decide)) r0)
end
end Nu
namespace Nu
open PySem PySem.Spec PyProof.Rows L2
section
variable {X : Cx} {K : PySem.W.Frag}
theorem ixL_K (h : X.K = K) : IxR X (rIxL K) := h ▸ ix_list
theorem ixT_K (h : X.K = K) : IxR X (rIxT K) := h ▸ ix_tup
theorem ixS_K (h : X.K = K) : IxR X (rIx K) := h ▸ ix_seq
theorem inSeq_K (h : X.K = K) : OpR X (compareOp .In) (rIn K false) := h ▸ op_in_seq
theorem notInSeq_K (h : X.K = K) : OpR X (compareOp .NotIn) (rIn K true) := h ▸ op_notIn_seq
theorem pe_fldK {e : Expr} {f : Str} {pos : Pos} {ta : TE} (h : X.K = K) (he : PE X e ta) (hb : attributeBase e f X.env (eval e X.env) = eval e X.env) : PE X (.Attribute e f pos) (tFld K ta f) := h ▸ pe_fld he hb
end
/-- a list (b true) or a tuple at p -/
def SqB (H : Hp) (p : Addr) (xs : List V) (b : Bool) : Prop := H p = some (if b = true then .lst xs else .tup xs)
/-- the same data, at most n deep -/
def SmD (H : Hp) : Nat → V → V → Prop
  | 0, _, _ => False
  | n + 1, x, y => (x = y ∧ flatV y = true) ∨ ∃ p q xs ys b, x = .ref p ∧ y = .ref q ∧ SqB H p xs b ∧ SqB H q ys b ∧ xs.length = ys.length ∧ xs.length ≤ 1000 ∧ ∀ (i : Nat) (u v : V), xs[i]? = some u → ys[i]? = some v → SmD H n u v
theorem SmD.same {H H' : Hp} (s : Same H H') : ∀ (n : Nat) (x y : V), SmD H n x y → SmD H' n x y
  | 0, _, _, h => h.elim
  | n + 1, x, y, h => by
    rcases h with h | ⟨p, q, xs, ys, b, e1, e2, h1, h2, h3, h4, h5⟩
    · exact .inl h
    · exact .inr ⟨p, q, xs, ys, b, e1, e2, s _ _ h1, s _ _ h2, h3, h4, fun i u v a c => SmD.same s n u v (h5 i u v a c)⟩
theorem SqB.seq {K : PySem.W.Frag} {H : Hp} {p : Addr} {xs : List V} {b : Bool} (h : SqB H p xs b) : SqL K H p xs ∨ SqT K H p xs := by
  cases b with
  | true => exact .inl (SqL.of h)
  | false => exact .inr (SqT.of h)
theorem rix_seq {K : PySem.W.Frag} {H : Hp} {p : Addr} {xs : List V} {b : Bool} {j : Nat} {v : V} {Q : VK} (h : SqB H p xs b) (e : xs[j]? = some v) (q : Q v H) : rIx K (.ref p) (.int (j : Int)) H Q := by
  cases b with
  | true => exact .inl ⟨p, xs, _, v, rfl, rfl, SqL.of h, atI_nat e, q⟩
  | false => exact .inr (.inl ⟨p, xs, _, v, rfl, rfl, SqT.of h, atI_nat e, q⟩)
theorem notTL {K : PySem.W.Frag} {n : String} (h1 : kitB n "tuple" = some false) (h2 : kitB n "list" = some false) : PySem.W.kitAny K (.type n) [.type "tuple", .type "list"] = some false :=
  kitAny_cons (kit_ty h1) (fun _ => kitAny_cons (kit_ty h2) (fun _ => kitAny_nil) (fun z => by cases z)) (fun z => by cases z)
theorem isTL {K : PySem.W.Frag} (b : Bool) : PySem.W.kitAny K (.type (if b = true then "list" else "tuple")) [.type "tuple", .type "list"] = some true := by
  cases b with
  | true => exact kitAny_cons (kit_ty (r := false) (by decide +kernel)) (fun _ => kitAny_cons (kit_ty (r := true) (by decide +kernel)) (fun z => by cases z) (fun _ => rfl)) (fun z => by cases z)
  | false => exact kitAny_cons (kit_ty (r := true) (by decide +kernel)) (fun z => by cases z) (fun _ => rfl)
theorem isL {K : PySem.W.Frag} (b : Bool) : PySem.W.kitOne K (.type (if b = true then "list" else "tuple")) (.type "list") = some b := by
  cases b with
  | true => exact kit_ty (by decide +kernel)
  | false => exact kit_ty (by decide +kernel)
theorem tyB {K : PySem.W.Frag} {H : Hp} {p : Addr} {xs : List V} {b : Bool} (h : SqB H p xs b) : TyX K H (.ref p) (.type (if b = true then "list" else "tuple")) := by
  cases b with
  | true => exact .base (.lst h)
  | false => exact .base (.tup h)
theorem SqB.upd_new {H : Hp} {p t : Addr} {xs : List V} {b : Bool} {o : HO} (h : SqB H p xs b) (ht : H t = none) : SqB (upd H t o) p xs b := same_upd ht _ _ h
theorem tl_paired : Paired ClsV [.ty "tuple", .ty "list"] [.type "tuple", .type "list"] := .cons (.ty "tuple") (.cons (.ty "list") .nil)
section
variable {P : Program} {w : World} {K : PySem.W.Frag} {mg : Str → Option Value} {base : Heap} {a : Ad} {fd : Fd}
def spSame (n : Nat) : Sp := fun vs H Q _ => ∃ (x y : V), vs = [x, y] ∧ SmD H n x y ∧ ∀ H', Same H H' → Q (.bl true) H'
theorem ok_l_same (T : Txt K mg a fd) : ∀ n : Nat, FnOk P w K mg base CX0 (n + 1) a.l_same fd.l_same ["_law_found", "_law_due"] (spSame n)
  | 0 => by
    refine T.F_l_same.ok sc_l_same (fun vs H Q E h => ?_) (fun cdv A outer s H vs Q E hr h => ?_)
    · obtain ⟨x, y, rfl, _⟩ := h
      rfl
    · obtain ⟨x, y, rfl, h, _⟩ := h
      exact h.elim
  | n + 1 => by
    have G_l_same := ok_l_same T n
    refine T.F_l_same.ok sc_l_same (fun vs H Q E h => ?_) (fun cdv A outer s H vs Q E hr h => ?_)
    · obtain ⟨x, y, rfl, _⟩ := h
      rfl
    · obtain ⟨x, y, rfl, h, k⟩ := h
      refine ⟨_, (pss_cons (ps_if (pt_val (pe_callB call_isiT (by rfl) T.n_isinstance (by decide +kernel) (pa_cons (pv 1) (pa_cons (pe_tup (pa_cons (pe_bltn (v := .ty "tuple") (by rfl) T.n_tuple (by decide +kernel) rfl) (pa_cons (pe_bltn (v := .ty "list") (by rfl) T.n_list (by decide +kernel) rfl) pa_nil))) pa_nil)))) (pss_cons (ps_if (PW.pt (pw_or (pt_not (pt_val (pe_callB call_isiT (by rfl) T.n_isinstance (by decide +kernel) (pa_cons (pv 0) (pa_cons (pe_tup (pa_cons (pe_bltn (v := .ty "tuple") (by rfl) T.n_tuple (by decide +kernel) rfl) (pa_cons (pe_bltn (v := .ty "list") (by rfl) T.n_list (by decide +kernel) rfl) pa_nil))) pa_nil))))) (pw_or1 (pt_cmpR op_ne (pe_callB call_isi (by rfl) T.n_isinstance (by decide +kernel) (pa_cons (pv 0) (pa_cons (pe_bltn (v := .ty "list") (by rfl) T.n_list (by decide +kernel) rfl) pa_nil))) (pe_callB call_isi (by rfl) T.n_isinstance (by decide +kernel) (pa_cons (pv 1) (pa_cons (pe_bltn (v := .ty "list") (by rfl) T.n_list (by decide +kernel) rfl) pa_nil))) (nomark _))))) (pss_one (ps_ret pe_bl)) pss_nil)
    (pss_cons (ps_if (pt_cmpR op_ne (pe_callB call_len_seq (by rfl) T.n_len PySem.boot_len (pa_cons (pv 0) pa_nil)) (pe_callB call_len_seq (by rfl) T.n_len PySem.boot_len (pa_cons (pv 1) pa_nil)) (nomark _)) (pss_one (ps_ret pe_bl)) pss_nil)
    (pss_one (ps_ret (pe_cmpR (op_eqD hr.units) (pe_lc (own := [("_law_k", 2)]) (g := gName 2) (by rfl) sc_l_same.nd (pi_range1 (by rfl) T.n_range (pa_cons (pe_callB call_len_seq (by rfl) T.n_len PySem.boot_len (pa_cons (pv 1) pa_nil)) pa_nil)) (blkOk_by (own := [("_law_k", 2)]) (N := ["_law_found", "_law_due", "_law_k"]) (sc := defScope s_l_same) (by decide +kernel)) (fun _ _ _ _ _ => pg_name (i := 2) sc_l_same.nd rfl (Or.inl rfl)) (fun _ _ _ _ _ => (pts_one (pt_not (pt_val (pe_call G_l_same hr (by rfl) T.g_l_same T.F_l_same.kp T.b_l_same .nil pass0 (pa_cons (pe_ix (ixS_K (K := K) rfl) (pv 0) (pv 2) (fun _ _ => rfl)) (pa_cons (pe_ix (ixS_K (K := K) rfl) (pv 1) (pv 2) (fun _ _ => rfl)) pa_nil))))))) (fun _ _ _ _ _ => (pv 2))) (pe_lst pa_nil) (nomark _)))))) pss_nil)
    (pss_cons (ps_if (pt_cmpR op_isN (pv 1) pe_non (nomark _)) (pss_one (ps_ret (pe_cmpR op_isN (pv 0) pe_non (nomark _)))) pss_nil)
    (pss_cons (ps_if (pt_val (pe_callB call_isi (by rfl) T.n_isinstance (by decide +kernel) (pa_cons (pv 1) (pa_cons (pe_bltn (v := .ty "str") (by rfl) T.n_str (by decide +kernel) rfl) pa_nil)))) (pss_one (ps_ret (pe_and (pe_callB call_isi (by rfl) T.n_isinstance (by decide +kernel) (pa_cons (pv 0) (pa_cons (pe_bltn (v := .ty "str") (by rfl) T.n_str (by decide +kernel) rfl) pa_nil))) (pe_one (pe_cmpR op_eq (pv 0) (pv 1) (nomark _)))))) pss_nil)
    (pss_cons (ps_if (PW.pt (pw_or (pt_val (pe_callB call_isi (by rfl) T.n_isinstance (by decide +kernel) (pa_cons (pv 1) (pa_cons (pe_bltn (v := .ty "bool") (by rfl) T.n_bool (by decide +kernel) rfl) pa_nil)))) (pw_or1 (pt_val (pe_callB call_isi (by rfl) T.n_isinstance (by decide +kernel) (pa_cons (pv 0) (pa_cons (pe_bltn (v := .ty "bool") (by rfl) T.n_bool (by decide +kernel) rfl) pa_nil))))))) (pss_one (ps_ret (pe_and (pe_callB call_isi (by rfl) T.n_isinstance (by decide +kernel) (pa_cons (pv 1) (pa_cons (pe_bltn (v := .ty "bool") (by rfl) T.n_bool (by decide +kernel) rfl) pa_nil))) (pe_and (pe_callB call_isi (by rfl) T.n_isinstance (by decide +kernel) (pa_cons (pv 0) (pa_cons (pe_bltn (v := .ty "bool") (by rfl) T.n_bool (by decide +kernel) rfl) pa_nil))) (pe_one (pe_cmpR op_eq (pv 0) (pv 1) (nomark _))))))) pss_nil)
    (pss_one (ps_ret (pe_and (pe_callB call_isi (by rfl) T.n_isinstance (by decide +kernel) (pa_cons (pv 0) (pa_cons (pe_bltn (v := .ty "int") (by rfl) T.n_int (by decide +kernel) rfl) pa_nil))) (pe_one (pe_cmpR op_eq (pv 0) (pv 1) (nomark _)))))))))), ?_⟩
      rcases h with ⟨rfl, hf⟩ | ⟨p, q, xs, ys, b, rfl, rfl, h1, h2, h3, h4, h5⟩
      · -- a number, a text, a truth, nothing
        cases x with
        | non =>
          refine ⟨_, rfl, (by show 2 ≤ sizeLine; decide), fun t ht => ⟨_, t, _, _, _, _, rfl, upd_same, tl_paired, .base .non, notTL (by decide +kernel) (by decide +kernel), _, rfl, iteF ?_⟩⟩
          refine ⟨_, rfl, rfl, _, rfl, iteT ?_⟩
          exact ⟨_, rfl, rfl, k _ (same_upd ht)⟩
        | bl c =>
          refine ⟨_, rfl, (by show 2 ≤ sizeLine; decide), fun t ht => ⟨_, t, _, _, _, _, rfl, upd_same, tl_paired, .base (.bl c), notTL (by decide +kernel) (by decide +kernel), _, rfl, iteF ?_⟩⟩
          refine ⟨_, rfl, rfl, _, rfl, iteF ?_⟩
          refine ⟨_, rfl, _, _, _, _, _, rfl, .ty "str", .base (.bl c), kit_ty (r := false) (by decide +kernel), _, rfl, iteF ?_⟩
          refine ⟨_, rfl, _, _, _, _, _, rfl, .ty "bool", .base (.bl c), kit_ty (r := true) (by decide +kernel), _, rfl, iteT (iteT ?_)⟩
          refine ⟨_, rfl, _, _, _, _, _, rfl, .ty "bool", .base (.bl c), kit_ty (r := true) (by decide +kernel), _, rfl, iteT ?_⟩
          refine ⟨_, rfl, _, _, _, _, _, rfl, .ty "bool", .base (.bl c), kit_ty (r := true) (by decide +kernel), _, rfl, iteT ?_⟩
          refine ⟨_, rfl, _, rfl, rfl, ?_⟩
          rw [decide_eq_true rfl]
          exact k _ (same_upd ht)
        | int c =>
          refine ⟨_, rfl, (by show 2 ≤ sizeLine; decide), fun t ht => ⟨_, t, _, _, _, _, rfl, upd_same, tl_paired, .base (.int c), notTL (by decide +kernel) (by decide +kernel), _, rfl, iteF ?_⟩⟩
          refine ⟨_, rfl, rfl, _, rfl, iteF ?_⟩
          refine ⟨_, rfl, _, _, _, _, _, rfl, .ty "str", .base (.int c), kit_ty (r := false) (by decide +kernel), _, rfl, iteF ?_⟩
          refine ⟨_, rfl, _, _, _, _, _, rfl, .ty "bool", .base (.int c), kit_ty (r := false) (by decide +kernel), _, rfl, iteF ?_⟩
          refine ⟨_, rfl, _, _, _, _, _, rfl, .ty "bool", .base (.int c), kit_ty (r := false) (by decide +kernel), _, rfl, iteF ?_⟩
          refine ⟨_, rfl, _, _, _, _, _, rfl, .ty "int", .base (.int c), kit_ty (r := true) (by decide +kernel), _, rfl, iteT ?_⟩
          refine ⟨_, rfl, _, rfl, rfl, ?_⟩
          rw [decide_eq_true rfl]
          exact k _ (same_upd ht)
        | str c =>
          refine ⟨_, rfl, (by show 2 ≤ sizeLine; decide), fun t ht => ⟨_, t, _, _, _, _, rfl, upd_same, tl_paired, .base (.str c), notTL (by decide +kernel) (by decide +kernel), _, rfl, iteF ?_⟩⟩
          refine ⟨_, rfl, rfl, _, rfl, iteF ?_⟩
          refine ⟨_, rfl, _, _, _, _, _, rfl, .ty "str", .base (.str c), kit_ty (r := true) (by decide +kernel), _, rfl, iteT ?_⟩
          refine ⟨_, rfl, _, _, _, _, _, rfl, .ty "str", .base (.str c), kit_ty (r := true) (by decide +kernel), _, rfl, iteT ?_⟩
          refine ⟨_, rfl, _, rfl, rfl, ?_⟩
          rw [decide_eq_true rfl]
          exact k _ (same_upd ht)
        | byt c => cases hf
        | flt c => cases hf
        | ref c => cases hf
        | ty c => cases hf
      · -- lists, tuples
        refine ⟨_, rfl, (by show 2 ≤ sizeLine; decide), fun t ht => ⟨_, t, _, _, _, _, rfl, upd_same, tl_paired, tyB (h2.upd_new ht), isTL b, _, rfl, iteT ?_⟩⟩
        have p1 := h1.upd_new (o := .tup [V.ty "tuple", V.ty "list"]) ht
        have q1 := h2.upd_new (o := .tup [V.ty "tuple", V.ty "list"]) ht
        refine ⟨_, rfl, (by show 2 ≤ sizeLine; decide), fun t2 ht2 => ⟨_, t2, _, _, _, _, rfl, upd_same, tl_paired, tyB (p1.upd_new ht2), isTL b, _, rfl, iteF ?_⟩⟩
        have p2 := p1.upd_new (o := .tup [V.ty "tuple", V.ty "list"]) ht2
        have q2 := q1.upd_new (o := .tup [V.ty "tuple", V.ty "list"]) ht2
        have s2 : Same H _ := (same_upd (o := .tup [V.ty "tuple", V.ty "list"]) ht).trans (same_upd (o := .tup [V.ty "tuple", V.ty "list"]) ht2)
        refine ⟨_, rfl, _, _, _, _, _, rfl, .ty "list", tyB p2, isL b, _, rfl, _, _, _, _, _, rfl, .ty "list", tyB q2, isL b, rfl, _, rfl, ?_⟩
        rw [decide_eq_true rfl]
        refine iteF ?_
        refine ⟨_, rfl, p, _, rfl, p2.seq, _, rfl, q, _, rfl, q2.seq, rfl, _, rfl, ?_⟩
        rw [decide_eq_true (by rw [h3])]
        refine iteF ?_
        -- return [..] == []
        refine ⟨_, rfl, q, _, rfl, q2.seq, _, rfl, by omega, by omega, fun D nD => ?_⟩
        refine ⟨fun i m H' => m = ys.length - i ∧ i ≤ ys.length ∧ Same _ H' ∧ H' D = some (.lst []), ⟨ys.length, rfl, Nat.zero_le _, same_upd nD, upd_same⟩, ?_⟩
        rintro i m H3 ⟨rfl, hi, s3, hD⟩
        by_cases hlt : i < ys.length
        · refine .inr ⟨by show i < ((ys.length : Nat) : Int).toNat; omega, fun H' => Same _ H' ∧ H' D = some (.lst []), fun H' q => ⟨ys.length - (i + 1), by omega, rfl, hlt, q⟩, fun x H4 y => ?_⟩
          obtain ⟨rfl, rfl⟩ := y
          refine ⟨rfl, ?_⟩
          have ex : xs[i]? = some (xs[i]'(by omega)) := List.getElem?_eq_getElem _
          have ey : ys[i]? = some ys[i] := List.getElem?_eq_getElem hlt
          have e0 : (0 : Int) + (i : Int) = (i : Int) := by omega
          refine ⟨_, rfl, _, rfl, ?_⟩
          rw [e0]
          refine rix_seq (s3 _ _ p2) ex ⟨_, rfl, _, rfl, ?_⟩
          refine rix_seq (s3 _ _ q2) ey ⟨_, _, rfl, SmD.same (s2.trans s3) _ _ _ (h5 i _ _ ex ey), fun H5 s5 => ⟨_, rfl, iteF ?_⟩⟩
          exact ⟨s3.trans s5, s5 _ _ hD⟩
        · refine .inl ⟨by show ((ys.length : Nat) : Int).toNat ≤ i; omega, ?_⟩
          refine ⟨Nat.zero_le _, fun e ne => ⟨.list [], .list [], .lst (SqL.of ?_) .nil, .lst (SqL.of upd_same) .nil, rfl, rfl, ?_⟩⟩
          · rw [upd_ne (fun z => by rw [z, ne] at hD; cases hD)]
            exact hD
          · exact k _ ((s2.trans s3).trans (same_upd ne))
end
end Nu
namespace Nu
open PySem PySem.Spec PyProof.Rows L2
inductive Pl where
  | leaf
  | node (k m : Int) (y n : Pl)
def PlH (H : Hp) : V → Pl → Prop
  | v, .leaf => ∃ p, v = .ref p ∧ H p = some (.tup [])
  | v, .node k m y n => ∃ p vy vn, v = .ref p ∧ H p = some (.tup [.int k, .int m, vy, vn]) ∧ PlH H vy y ∧ PlH H vn n
theorem PlH.mono {H H' : Hp} (s : ∀ c xs, H c = some (.tup xs) → H' c = some (.tup xs)) : ∀ (pl : Pl) (v : V), PlH H v pl → PlH H' v pl
  | .leaf, v, ⟨p, e, h⟩ => ⟨p, e, s _ _ h⟩
  | .node k m y n, v, ⟨p, vy, vn, e, h, hy, hn⟩ => ⟨p, vy, vn, e, s _ _ h, PlH.mono s y vy hy, PlH.mono s n vn hn⟩
theorem PlH.same {H H' : Hp} {pl : Pl} {v : V} (h : PlH H v pl) (s : Same H H') : PlH H' v pl := PlH.mono (fun c xs e => s c _ e) pl v h
/-- only lists changed -/
theorem tup_keep {H H' : Hp} {s : Addr} {xs : List V} (k : Keep [s] H H') (hs : H s = some (.lst xs)) : ∀ c ys, H c = some (.tup ys) → H' c = some (.tup ys) := fun c ys e => k c _ e fun z => by
  rw [List.mem_singleton.mp z, hs] at e
  cases e
def Pl.data : Pl → PyData
  | .leaf => .tuple []
  | .node k m y n => .tuple [.int k, .int m, y.data, n.data]
def Pl.deep : Pl → Nat
  | .leaf => 0
  | .node _ _ y n => 1 + max y.deep n.deep
def Pl.size : Pl → Nat
  | .leaf => 0
  | .node _ _ y n => 1 + y.size + n.size
def Pl.fits (w : Nat) : Pl → Prop
  | .leaf => True
  | .node k _ y n => 0 ≤ k ∧ k < (w : Int) ∧ y.fits w ∧ n.fits w
def Pl.walk (w : List Int) : Pl → List (Int × Int × Bool)
  | .leaf => []
  | .node k m y n => (k, m, decide (m ≤ w.getD k.toNat 0)) :: (if m ≤ w.getD k.toNat 0 then y.walk w else n.walk w)
theorem Pl.walk_node (w : List Int) (k m : Int) (y n : Pl) : (Pl.node k m y n).walk w = (k, m, decide (m ≤ w.getD k.toNat 0)) :: (if m ≤ w.getD k.toNat 0 then y.walk w else n.walk w) := rfl
theorem Pl.walk_len (w : List Int) : ∀ pl : Pl, (pl.walk w).length ≤ pl.deep
  | .leaf => Nat.le_refl _
  | .node k m y n => by
    have h1 := Pl.walk_len w y
    have h2 := Pl.walk_len w n
    unfold Pl.walk Pl.deep
    by_cases c : m ≤ w.getD k.toNat 0
    · rw [if_pos c, List.length_cons]
      omega
    · rw [if_neg c, List.length_cons]
      omega
theorem Pl.dp {K : PySem.W.Frag} {H : Hp} : ∀ (pl : Pl) (v : V), PlH H v pl → Dp K H v pl.data
  | .leaf, v, ⟨p, e, h⟩ => e ▸ .tup (SqT.of h) .nil
  | .node k m y n, v, ⟨p, vy, vn, e, h, hy, hn⟩ => e ▸ .tup (SqT.of h) (.cons (.int k) (.cons (.int m) (.cons (Pl.dp y vy hy) (.cons (Pl.dp n vn hn) .nil))))
theorem Pl.lay : ∀ pl : Pl, pl.data.canLay0 = true
  | .leaf => by
    unfold Pl.data
    simp only [PyData.canLay0, PyData.canLayAll0]
  | .node k m y n => by
    unfold Pl.data
    simp only [PyData.canLay0, PyData.canLayAll0, Pl.lay y, Pl.lay n, Bool.and_true]
theorem Pl.depth : ∀ pl : Pl, pl.data.depth ≤ pl.deep + 1
  | .leaf => by
    unfold Pl.data
    simp only [PyData.depth, PyData.depthAll, Pl.deep]
    omega
  | .node k m y n => by
    have h1 := Pl.depth y
    have h2 := Pl.depth n
    unfold Pl.data
    simp only [PyData.depth, PyData.depthAll, Pl.deep]
    omega
theorem Pl.shaped {pl : Pl} (h : pl.deep ≤ 60) : SeqAt.shaped pl.data = true := by
  unfold SeqAt.shaped
  rw [pl.lay, Bool.true_and]
  have := pl.depth
  exact decide_eq_true (by omega)
def Pl.isLeaf : Pl → Bool
  | .leaf => true
  | _ => false
theorem Pl.eqv : ∀ pl : Pl, PyData.eqv pl.data (.tuple []) = pl.isLeaf
  | .leaf => by
    unfold Pl.data
    simp only [PyData.eqv, PyData.eqvAll, Pl.isLeaf]
  | .node k m y n => by
    unfold Pl.data
    simp only [PyData.eqv, PyData.eqvAll, Pl.isLeaf]
/-- the rows told -/
structure AskH (H : Hp) (ts : List Addr) (as : List (Int × Int × Bool)) : Prop where
  len : ts.length = as.length
  at_ : ∀ (i : Nat) (t : Addr) (x : Int × Int × Bool), ts[i]? = some t → as[i]? = some x → H t = some (.tup [.int x.1, .int x.2.1, .bl x.2.2])
theorem AskH.mono {H H' : Hp} {ts : List Addr} {as : List (Int × Int × Bool)} (h : AskH H ts as) (s : ∀ c xs, H c = some (.tup xs) → H' c = some (.tup xs)) : AskH H' ts as := ⟨h.len, fun i t x a b => s _ _ (h.at_ i t x a b)⟩
theorem AskH.nil {H : Hp} : AskH H [] [] := ⟨rfl, fun i t x e => by simp at e⟩
theorem AskH.snoc {H : Hp} {ts : List Addr} {as : List (Int × Int × Bool)} {t : Addr} {x : Int × Int × Bool} (h : AskH H ts as) (e : H t = some (.tup [.int x.1, .int x.2.1, .bl x.2.2])) : AskH H (ts ++ [t]) (as ++ [x]) := by
  refine ⟨by rw [List.length_append, List.length_append, h.len]; rfl, fun i t' x' a b => ?_⟩
  have l := h.len
  by_cases c : i < ts.length
  · rw [List.getElem?_append_left c] at a
    rw [List.getElem?_append_left (by omega)] at b
    exact h.at_ i t' x' a b
  · rw [List.getElem?_append_right (by omega)] at a
    rw [List.getElem?_append_right (by omega)] at b
    have z : i = ts.length := by
      by_cases z : i - ts.length = 0
      · omega
      · rw [List.getElem?_eq_none (by simp; omega)] at a
        cases a
    subst z
    rw [l, Nat.sub_self] at b
    rw [Nat.sub_self] at a
    cases a
    cases b
    exact e
theorem AskH.cons {H : Hp} {ts : List Addr} {as : List (Int × Int × Bool)} {t : Addr} {x : Int × Int × Bool} (h : AskH H ts as) (e : H t = some (.tup [.int x.1, .int x.2.1, .bl x.2.2])) : AskH H (t :: ts) (x :: as) := by
  refine ⟨by rw [List.length_cons, List.length_cons, h.len], fun i t' x' a b => ?_⟩
  cases i with
  | zero =>
    cases a
    cases b
    exact e
  | succ i => exact h.at_ i t' x' a b
theorem while_m {c : TT} {tb : TS} {D : Ends} {σ : L2.St} {H : Hp} (W : Nat → L2.St → Hp → Prop) (m0 : Nat) (h0 : W m0 σ H)
    (hs : ∀ m σ H, W m σ H → c σ H fun b H1 => if b = true then tb { D with nx := fun σ' H' => ∃ m', m' < m ∧ W m' σ' H', ct := fun σ' H' => ∃ m', m' < m ∧ W m' σ' H', bk := D.nx } σ H1 else D.nx σ H1)
    (mono : ∀ σ H Q Q', (∀ b H1, Q b H1 → Q' b H1) → c σ H Q → c σ H Q') : tWhile c tb D σ H := by
  refine ⟨W, ⟨m0, h0⟩, fun m σ H w => mono σ H _ _ (fun b H1 q => ?_) (hs m σ H w)⟩
  cases b with
  | true => exact ⟨_, fun σ' H' h => h, q⟩
  | false => exact q
section
variable {P : Program} {w : World} {K : PySem.W.Frag} {mg : Str → Option Value} {base : Heap} {a : Ad} {fd : Fd}
def spWalked : Sp := fun vs H Q _ => ∃ (v : V) (p : Addr) (pl : Pl) (ns : List Int), vs = [v, .ref p] ∧ PlH H v pl ∧ H p = some (.tup (ns.map V.int)) ∧ pl.fits ns.length ∧ pl.deep ≤ 50 ∧
  ∀ r ts H', Same H H' → H r = none → H' r = some (.lst (ts.map V.ref)) → AskH H' ts (pl.walk ns) → Q (.ref r) H'
theorem ok_walked (T : Txt K mg a fd) : FnOk P w K mg base CX0 1 a.walked fd.walked ["plan", "world"] spWalked := by
  refine T.F_walked.ok sc_walked (fun vs H Q E h => ?_) (fun cdv A outer s H vs Q E hr h => ?_)
  · obtain ⟨v, p, pl, ns, rfl, _⟩ := h
    rfl
  · obtain ⟨v, p, pl, ns, rfl, hP, hp, hf, hd, k⟩ := h
    have hu := hu_of hr
    refine ⟨_, (pss_cons (ps_set (i := 2) sc_walked.nd rfl (Or.inl rfl) (pe_lst pa_nil))
    (pss_cons (ps_while PassesOwn.never (pt_cmpR (op_neD hr.units) (pv 0) (pe_tup pa_nil) (nomark _))
      (pss_cons (ps_asg (pv 0) (pg_tup (by rfl) (pgs_cons (pg_name (i := 3) sc_walked.nd rfl (Or.inl rfl)) (pgs_cons (pg_name (i := 4) sc_walked.nd rfl (Or.inl rfl)) (pgs_cons (pg_name (i := 5) sc_walked.nd rfl (Or.inl rfl)) (pgs_cons (pg_name (i := 6) sc_walked.nd rfl (Or.inl rfl)) pgs_nil))))))
    (pss_cons (ps_set (i := 7) sc_walked.nd rfl (Or.inl rfl) (pe_cmpR op_ge (pe_ix ix_tup (pv 1) (pv 3) (fun _ _ => rfl)) (pv 4) (nomark _)))
    (pss_cons (ps_expr (pe_bm PySem.F.plainAttrs_list PySem.F.slot_list_append PySem.F.type_list_append mt_append (pv 2) (pa_cons (pe_tup (pa_cons (pv 3) (pa_cons (pv 4) (pa_cons (pv 7) pa_nil)))) pa_nil)))
    (pss_one (ps_set (i := 0) sc_walked.nd rfl (Or.inl rfl) (pe_ifExp (pt_val (pv 7)) (pv 5) (pv 6))))))))
    (pss_one (ps_ret (pv 2))))), ?_⟩
    refine ⟨Nat.zero_le _, fun r nr => ?_⟩
    refine seq_go ?_
    have s0 : Same H (upd H r (.lst [])) := same_upd nr
    refine while_m (fun m σ H' => ∃ (v' : V) (pl' : Pl) (done : List (Int × Int × Bool)) (ts : List Addr) (v3 v4 v5 v6 v7 : Option V), m = pl'.size ∧ σ = [some v', some (.ref p), some (.ref r), v3, v4, v5, v6, v7] ∧ Same H H' ∧ H' r = some (.lst (ts.map V.ref)) ∧ AskH H' ts done ∧ PlH H v' pl' ∧ pl'.fits ns.length ∧ pl'.deep + done.length ≤ 50 ∧ done ++ pl'.walk ns = pl.walk ns) pl.size
      ⟨v, pl, [], [], none, none, none, none, none, rfl, rfl, s0, upd_same, AskH.nil, hP, hf, hd, rfl⟩ ?_ ?_
    · rintro m σ H1 ⟨v', pl', done, ts, v3, v4, v5, v6, v7, rfl, rfl, s1, h1, hA, hP1, hf1, hd1, ew⟩
      refine ⟨_, rfl, Nat.zero_le _, fun e ne => ⟨pl'.data, .tuple [], Pl.dp _ _ (hP1.same (s1.trans (same_upd ne))), .tup (SqT.of upd_same) .nil, Pl.shaped (by omega), by decide, _, rfl, ?_⟩⟩
      have s2 := s1.trans (same_upd (o := .tup []) ne)
      have h2 : (upd H1 e (.tup [])) r = some (.lst (ts.map V.ref)) := same_upd ne _ _ h1
      have hA2 := hA.mono (H' := upd H1 e (.tup [])) (fun c xs z => same_upd ne _ _ z)
      rw [Pl.eqv]
      cases pl' with
      | leaf =>
        refine iteF ?_
        refine ⟨_, rfl, ?_⟩
        refine k r ts _ s2 nr h2 ?_
        rw [← ew]
        unfold Pl.walk
        rw [List.append_nil]
        exact hA2
      | node kk mm y n =>
        refine iteT ?_
        obtain ⟨q, vy, vn, rfl, hq, hy, hn⟩ := hP1
        obtain ⟨f1, f2, f3, f4⟩ := hf1
        obtain ⟨j, rfl⟩ := Int.eq_ofNat_of_zero_le f1
        have hj : j < ns.length := by omega
        refine ⟨_, rfl, q, _, rfl, SqT.of (s2 _ _ hq), rfl, _, _, rfl, _, _, rfl, _, _, rfl, _, _, rfl, rfl, ?_⟩
        refine ⟨_, rfl, _, rfl, p, _, _, _, rfl, rfl, SqT.of (s2 _ _ hp), atI_nat (by rw [List.getElem?_map, List.getElem?_eq_getElem hj]; rfl), _, rfl, _, _, rfl, rfl, ?_⟩
        refine ⟨_, rfl, .inl ⟨rfl, _, SqL.of h2⟩, ?_⟩
        refine ⟨_, rfl, _, rfl, _, rfl, (by show 3 ≤ sizeLine; decide), fun t nt => ?_⟩
        have rt : r ≠ t := fun z => by rw [← z, h2] at nt; cases nt
        have l1 := hA.len
        refine ⟨r, ts.map V.ref, _, rfl, rfl, by rw [upd_ne rt]; exact h2, small1000 (by rw [List.length_map]; omega), ?_⟩
        have s3 : Same H (upd (upd (upd H1 e (.tup [])) t (.tup [V.int (j : Int), V.int mm, V.bl (decide (mm ≤ ns[j]))])) r (.lst (ts.map V.ref ++ [V.ref t]))) := fun c u z => by
          have z2 := s2 c u z
          rw [upd_ne (fun q => by rw [q, nr] at z; cases z), upd_ne (fun q => by rw [q, nt] at z2; cases z2)]
          exact z2
        have et : ∀ c xs, (upd H1 e (.tup [])) c = some (.tup xs) → (upd (upd (upd H1 e (.tup [])) t (.tup [V.int (j : Int), V.int mm, V.bl (decide (mm ≤ ns[j]))])) r (.lst (ts.map V.ref ++ [V.ref t]))) c = some (.tup xs) := fun c xs z => by
          rw [upd_ne (fun q => by rw [q, h2] at z; cases z), upd_ne (fun q => by rw [q, nt] at z; cases z)]
          exact z
        have hA3 := (hA2.mono et).snoc (t := t) (x := ((j : Int), mm, decide (mm ≤ ns[j]))) (by rw [upd_ne (Ne.symm rt), upd_same])
        have eg : ns.getD (j : Int).toNat 0 = ns[j] := by
          rw [Int.toNat_natCast, List.getD_eq_getElem?_getD, List.getElem?_eq_getElem hj]
          rfl
        have dl : (done ++ [((j : Int), mm, decide (mm ≤ ns[j]))]).length = done.length + 1 := by
          rw [List.length_append]
          rfl
        replace hd1 : 1 + max y.deep n.deep + done.length ≤ 50 := hd1
        rw [Pl.walk_node, eg] at ew
        have sz : y.size < (Pl.node (j : Int) mm y n).size ∧ n.size < (Pl.node (j : Int) mm y n).size := by
          show y.size < 1 + y.size + n.size ∧ n.size < 1 + y.size + n.size
          omega
        refine ⟨_, rfl, _, rfl, ?_⟩
        by_cases cy : mm ≤ ns[j]
        · have db := decide_eq_true cy
          rw [if_pos cy] at ew
          refine (if_pos db).mpr ⟨_, rfl, _, sz.1, vy, y, done ++ [((j : Int), mm, decide (mm ≤ ns[j]))], ts ++ [t], some (.int (j : Int)), some (.int mm), some vy, some vn, some (.bl (decide (mm ≤ ns[j]))), rfl, rfl, s3, ?_, hA3, hy, f3, by omega, ?_⟩
          · rw [upd_same, List.map_append]
            rfl
          · rw [← ew, List.append_assoc]
            rfl
        · have db := decide_eq_false cy
          rw [if_neg cy] at ew
          refine (if_neg (by rw [db]; exact Bool.false_ne_true)).mpr ⟨_, rfl, _, sz.2, vn, n, done ++ [((j : Int), mm, decide (mm ≤ ns[j]))], ts ++ [t], some (.int (j : Int)), some (.int mm), some vy, some vn, some (.bl (decide (mm ≤ ns[j]))), rfl, rfl, s3, ?_, hA3, hn, f4, by omega, ?_⟩
          · rw [upd_same, List.map_append]
            rfl
          · rw [← ew, List.append_assoc]
            rfl
    · intro σ H' Q1 Q2 m h
      obtain ⟨v, e, l, hn⟩ := h
      refine ⟨v, e, l, fun p np => ?_⟩
      obtain ⟨d, d', a1, a2, a3, a4, k, ek, q⟩ := hn p np
      exact ⟨d, d', a1, a2, a3, a4, k, ek, m _ _ q⟩
end
end Nu
namespace Nu
open PySem PySem.Spec PyProof.Rows L2
theorem PlH.ref {H : Hp} {v : V} {pl : Pl} (h : PlH H v pl) : ∃ p xs, v = .ref p ∧ H p = some (.tup xs) := by
  cases pl with
  | leaf =>
    obtain ⟨p, e, h⟩ := h
    exact ⟨p, _, e, h⟩
  | node k m y n =>
    obtain ⟨p, vy, vn, e, h, _⟩ := h
    exact ⟨p, _, e, h⟩
section
variable {P : Program} {w : World} {K : PySem.W.Frag} {mg : Str → Option Value} {base : Heap} {a : Ad} {fd : Fd}
def spLW (n : Nat) : Sp := fun vs H Q _ => ∃ (v : V) (p : Addr) (pl : Pl) (ns : List Int), vs = [v, .ref p] ∧ PlH H v pl ∧ H p = some (.tup (ns.map V.int)) ∧ pl.fits ns.length ∧ pl.deep < n ∧ n ≤ 50 ∧
  ∀ r ts H', Same H H' → H r = none → H' r = some (.lst (ts.map V.ref)) → AskH H' ts (pl.walk ns) → Q (.ref r) H'
theorem ok_l_walked (T : Txt K mg a fd) : ∀ n : Nat, FnOk P w K mg base CX0 (n + 1) a.l_walked fd.l_walked ["_law_plan_here", "_law_world"] (spLW n)
  | 0 => by
    refine T.F_l_walked.ok sc_l_walked (fun vs H Q E h => ?_) (fun cdv A outer s H vs Q E hr h => ?_)
    · obtain ⟨v, p, pl, ns, rfl, _⟩ := h
      rfl
    · obtain ⟨v, p, pl, ns, rfl, hP, hp, hf, hd, hn, k⟩ := h
      exact absurd hd (Nat.not_lt_zero _)
  | n + 1 => by
    have G_l_walked := ok_l_walked T n
    refine T.F_l_walked.ok sc_l_walked (fun vs H Q E h => ?_) (fun cdv A outer s H vs Q E hr h => ?_)
    · obtain ⟨v, p, pl, ns, rfl, _⟩ := h
      rfl
    · obtain ⟨v, p, pl, ns, rfl, hP, hp, hf, hd, hn, k⟩ := h
      have hu := hu_of hr
      refine ⟨_, (pss_cons (ps_if (pt_cmpR (op_eqD hr.units) (pv 0) (pe_tup pa_nil) (nomark _)) (pss_one (ps_ret (pe_lst pa_nil))) pss_nil)
    (pss_cons (ps_set (i := 2) sc_l_walked.nd rfl (Or.inl rfl) (pe_cmpR op_ge (pe_ix ix_tup (pv 1) (pe_ix ix_tup (pv 0) pe_int (fun _ _ => rfl)) (fun _ _ => rfl)) (pe_ix ix_tup (pv 0) pe_int (fun _ _ => rfl)) (nomark _)))
    (pss_one (ps_ret (pe_op op_cat (pe_lst (pa_cons (pe_tup (pa_cons (pe_ix ix_tup (pv 0) pe_int (fun _ _ => rfl)) (pa_cons (pe_ix ix_tup (pv 0) pe_int (fun _ _ => rfl)) (pa_cons (pv 2) pa_nil)))) pa_nil)) (pe_call G_l_walked hr (by rfl) T.g_l_walked T.F_l_walked.kp T.b_l_walked .nil pass0 (pa_cons (pe_ix ix_list (pe_lst (pa_cons (pe_ix ix_tup (pv 0) pe_int (fun _ _ => rfl)) (pa_cons (pe_ix ix_tup (pv 0) pe_int (fun _ _ => rfl)) pa_nil))) (pe_callTy call_int1 (by rfl) T.n_int (by decide +kernel) (pa_cons (pv 2) pa_nil)) (fun _ _ => rfl)) (pa_cons (pv 1) pa_nil)))))))), ?_⟩
      refine ⟨_, rfl, Nat.zero_le _, fun e ne => ⟨pl.data, .tuple [], Pl.dp _ _ (hP.same (same_upd ne)), .tup (SqT.of upd_same) .nil, Pl.shaped (by omega), by decide, _, rfl, ?_⟩⟩
      rw [Pl.eqv]
      have s1 : Same H (upd H e (.tup [])) := same_upd ne
      cases pl with
      | leaf =>
        refine iteT ?_
        refine ⟨Nat.zero_le _, fun r nr => ?_⟩
        exact k r [] _ (s1.trans (same_upd nr)) (s1.free nr) upd_same AskH.nil
      | node kk mm y n2 =>
        refine iteF ?_
        obtain ⟨q, vy, vn, rfl, hq, hy, hn'⟩ := hP
        obtain ⟨f1, f2, f3, f4⟩ := hf
        obtain ⟨j, rfl⟩ := Int.eq_ofNat_of_zero_le f1
        have hj : j < ns.length := by omega
        replace hd : 1 + max y.deep n2.deep < n + 1 := hd
        have eg : ns.getD (j : Int).toNat 0 = ns[j] := by
          rw [Int.toNat_natCast, List.getD_eq_getElem?_getD, List.getElem?_eq_getElem hj]
          rfl
        rw [Pl.walk_node, eg] at k
        have hq1 := s1 _ _ hq
        refine ⟨_, rfl, _, rfl, q, _, 0, _, rfl, rfl, SqT.of hq1, rfl, p, _, _, _, rfl, rfl, SqT.of (s1 _ _ hp), atI_nat (by rw [List.getElem?_map, List.getElem?_eq_getElem hj]; rfl), ?_⟩
        refine ⟨_, rfl, q, _, 1, _, rfl, rfl, SqT.of hq1, rfl, _, _, rfl, rfl, ?_⟩
        refine gName_go ?_
        refine ⟨_, rfl, q, _, 0, _, rfl, rfl, SqT.of hq1, rfl, _, rfl, q, _, 1, _, rfl, rfl, SqT.of hq1, rfl, _, rfl, (by show 3 ≤ sizeLine; decide), fun t nt => ?_⟩
        refine ⟨(by show 1 ≤ sizeLine; decide), fun l1 nl1 => ?_⟩
        have s2 := (s1.trans (same_upd (o := .tup [V.int (j : Int), V.int mm, V.bl (decide (mm ≤ ns[j]))]) nt)).trans (same_upd (o := .lst [V.ref t]) nl1)
        refine ⟨_, rfl, q, _, 3, _, rfl, rfl, SqT.of (s2 _ _ hq), rfl, _, rfl, q, _, 2, _, rfl, rfl, SqT.of (s2 _ _ hq), rfl, (by show 2 ≤ sizeLine; decide), fun l2 nl2 => ?_⟩
        have s3 := s2.trans (same_upd (o := .lst [vn, vy]) nl2)
        obtain ⟨v', pl', hv, hfv, hdv, ev, ea⟩ : ∃ (v' : V) (pl' : Pl), PlH H v' pl' ∧ pl'.fits ns.length ∧ pl'.deep < n ∧ (if mm ≤ ns[j] then y.walk ns else n2.walk ns) = pl'.walk ns ∧ atI [vn, vy] (if decide (mm ≤ ns[j]) = true then 1 else 0) = some v' := by
          by_cases cy : mm ≤ ns[j]
          · exact ⟨vy, y, hy, f3, by omega, by rw [if_pos cy], by rw [decide_eq_true cy]; rfl⟩
          · exact ⟨vn, n2, hn', f4, by omega, by rw [if_neg cy], by rw [decide_eq_false cy]; rfl⟩
        rw [ev] at k
        refine ⟨_, rfl, .inr ⟨_, rfl, ⟨l2, _, _, v', rfl, rfl, SqL.of upd_same, ea, _, rfl, v', p, pl', ns, rfl, hv.same s3, s3 _ _ hp, hfv, hdv, by omega, fun r ts H' s4 nr hr4 hA4 => ?_⟩⟩⟩
        have s5 := s3.trans s4
        have h1l : H' l1 = some (.lst [V.ref t]) := s4 _ _ (same_upd nl2 _ _ upd_same)
        have h1t : H' t = some (.tup [V.int (j : Int), V.int mm, V.bl (decide (mm ≤ ns[j]))]) := s4 _ _ (same_upd nl2 _ _ (same_upd nl1 _ _ upd_same))
        have la := hA4.len
        have lb := Pl.walk_len ns pl'
        refine ⟨l1, r, [V.ref t], ts.map V.ref, rfl, rfl, h1l, hr4, Nat.le_of_lt (small1000 (by rw [List.length_map, List.length_singleton]; omega)), fun f nf => ?_⟩
        exact k f (t :: ts) _ (s5.trans (same_upd nf)) (s5.free nf) upd_same ((hA4.cons (x := ((j : Int), mm, decide (mm ≤ ns[j]))) h1t).mono fun c xs z => same_upd nf _ _ z)
end
end Nu
namespace Nu
open PySem PySem.Spec PyProof.Rows L2
theorem Drw.new {K : PySem.W.Frag} {H : Hp} {s sc : Addr} {ns : List Int} (D : Drw K H s sc ns) {l : Addr} {o : HO} (hl : H l = none) : Drw K (L2.upd H l o) s sc ns :=
  D.stay (Keep.same (F := []) (same_upd hl)) (by simp) (fun _ => by simp)
theorem Drw.same {K : PySem.W.Frag} {H H' : Hp} {s sc : Addr} {ns : List Int} (D : Drw K H s sc ns) (e : Same H H') : Drw K H' s sc ns :=
  D.stay (Keep.same (F := []) e) (by simp) (fun _ => by simp)
theorem Drw.ns {K : PySem.W.Frag} {H : Hp} {s sc l : Addr} {ns : List Int} (D : Drw K H s sc ns) (hl : H l = none) : l ∉ [s] := fun z => by
  obtain ⟨i, m, r, e, _⟩ := D.at_
  rw [List.mem_singleton.mp z, e] at hl
  cases hl
theorem Drw.over {K : PySem.W.Frag} {H H' : Hp} {s sc l : Addr} {ns : List Int} {o : HO} (D : Drw K H s sc ns) (k : Keep [s] H H') (D' : Drw K H' s sc ns) (hl : H l = none) : Drw K (L2.upd H' l o) s sc ns := by
  have nls := D.ns hl
  obtain ⟨i, m, r, e, h⟩ := D'.at_
  refine ⟨D.sq.elim .inl fun q => .inr ⟨?_, q.2⟩, i, m, r, by rw [upd_ne (fun z => nls (by rw [z]; exact List.mem_singleton.mpr rfl))]; exact e, h⟩
  have h1 := k.rd q.1 (fun z => q.2 (List.mem_singleton.mp z))
  have ne : sc ≠ l := fun z => by
    rcases q.1 with g | ⟨ob, g⟩ <;> rw [z, hl] at g <;> cases g
  rcases h1 with g | ⟨ob, g⟩
  · exact .inl (by rw [upd_ne ne]; exact g)
  · exact .inr ⟨ob, by rw [upd_ne ne]; exact g⟩
section
variable {P : Program} {w : World} {K : PySem.W.Frag} {mg : Str → Option Value} {base : Heap} {a : Ad} {fd : Fd}
def spPlan (K : PySem.W.Frag) (n : Nat) : Sp := fun vs H Q _ => ∃ (s sc : Addr) (ns : List Int) (m d : Nat), vs = [.ref s, .int (m : Int), .int (d : Int)] ∧ Drw K H s sc ns ∧ 1 ≤ m ∧ m ≤ 3 ∧ d < n ∧
  ∀ v pl H', Keep [s] H H' → Drw K H' s sc ns → PlH H' v pl → pl.fits m → pl.deep ≤ d → Q v H'
theorem Drw.sameD {H H' : Hp} {s sc : Addr} {ns : List Int} (d : Drw K H s sc ns) (e : Same H H') : Drw K H' s sc ns := d.stay (F := []) (Keep.same e) (by simp) (by simp)
theorem Drw.tups {H H' : Hp} {s sc : Addr} {ns : List Int} (d : Drw K H s sc ns) (k : Keep [s] H H') : ∀ c xs, H c = some (.tup xs) → H' c = some (.tup xs) := by
  obtain ⟨i, m, r, e, _⟩ := d.at_
  exact fun c xs h => tup_keep k e c xs h
theorem ok_l_plan (T : Txt K mg a fd) : ∀ n : Nat, FnOk P w K mg base CX0 (n + 2) a.l_plan fd.l_plan ["_law_state", "_law_places", "_law_deep"] (spPlan K n)
  | 0 => by
    refine T.F_l_plan.ok sc_l_plan (fun vs H Q E h => ?_) (fun cdv A outer s H vs Q E hr h => ?_)
    · obtain ⟨s, sc, ns, m, d, rfl, _⟩ := h
      rfl
    · obtain ⟨s, sc, ns, m, d, rfl, D, h1, h3, hd, k⟩ := h
      exact absurd hd (Nat.not_lt_zero _)
  | n + 1 => by
    have G_l_plan := ok_l_plan T n
    have G_l_drawn := ok_l_drawn (P := P) (w := w) (base := base) T
    refine T.F_l_plan.ok sc_l_plan (fun vs H Q E h => ?_) (fun cdv A outer s H vs Q E hr h => ?_)
    · obtain ⟨s, sc, ns, m, d, rfl, _⟩ := h
      rfl
    · obtain ⟨s, sc, ns, m, d, rfl, D, h1, h3, hd, k⟩ := h
      have hu := hu_of hr
      refine ⟨_, (pss_cons (ps_if (PW.pt (pw_or (pt_cmpR op_eq (pv 2) pe_int (nomark _)) (pw_or1 (pt_cmpR op_eq (pe_call G_l_drawn (hr.mono (by omega)) (by rfl) T.g_l_drawn T.F_l_drawn.kp T.b_l_drawn .nil pass0 (pa_cons (pv 0) (pa_cons pe_int pa_nil))) pe_int (nomark _))))) (pss_one (ps_ret (pe_tup pa_nil))) pss_nil)
    (pss_cons (ps_set (i := 3) sc_l_plan.nd rfl (Or.inl rfl) (pe_tup (pa_cons (pe_call G_l_drawn (hr.mono (by omega)) (by rfl) T.g_l_drawn T.F_l_drawn.kp T.b_l_drawn .nil pass0 (pa_cons (pv 0) (pa_cons (pv 1) pa_nil))) (pa_cons (pe_call G_l_drawn (hr.mono (by omega)) (by rfl) T.g_l_drawn T.F_l_drawn.kp T.b_l_drawn .nil pass0 (pa_cons (pv 0) (pa_cons pe_int pa_nil))) pa_nil))))
    (pss_one (ps_ret (pe_op op_catT (pv 3) (pe_tup (pa_cons (pe_call G_l_plan hr (by rfl) T.g_l_plan T.F_l_plan.kp T.b_l_plan .nil pass0 (pa_cons (pv 0) (pa_cons (pv 1) (pa_cons (pe_op op_sub (pv 2) pe_int) pa_nil)))) (pa_cons (pe_call G_l_plan hr (by rfl) T.g_l_plan T.F_l_plan.kp T.b_l_plan .nil pass0 (pa_cons (pv 0) (pa_cons (pv 1) (pa_cons (pe_op op_sub (pv 2) pe_int) pa_nil)))) pa_nil)))))))), ?_⟩
      have leaf : ∀ H', Keep [s] H H' → Drw K H' s sc ns → ∀ p, H' p = none → Q (.ref p) (upd H' p (.tup [])) := fun H' k1 D1 p np =>
        k _ .leaf _ (k1.trans (Keep.same (same_upd np))) (D1.sameD (same_upd np)) ⟨p, rfl, upd_same⟩ trivial (Nat.zero_le _)
      refine ⟨_, rfl, rfl, _, rfl, ?_⟩
      by_cases c0 : d = 0
      · subst c0
        refine iteT (iteT ?_)
        exact ⟨Nat.zero_le _, fun p np => leaf H (Keep.refl _ _) D p np⟩
      · have e0 : decide (V.int (d : Int) = V.int 0) = false := decide_eq_false fun z => c0 (by injection z with z; omega)
        rw [e0]
        refine iteF ?_
        refine ⟨_, rfl, s, sc, ns, 5, rfl, D, by decide, by decide, fun v1 H1 a1 b1 k1 D1 => ⟨rfl, _, rfl, ?_⟩⟩
        by_cases c1 : v1 = 0
        · subst c1
          refine iteT ?_
          exact ⟨Nat.zero_le _, fun p np => leaf H1 k1 D1 p np⟩
        · rw [show decide (V.int v1 = V.int 0) = false from decide_eq_false fun z => c1 (by injection z)]
          refine iteF ?_
          refine ⟨_, rfl, _, rfl, s, sc, ns, (m : Int), rfl, D1, by omega, by have := intOkS (x := (m : Int)) (by omega) (by omega); unfold IntOk at this; omega, fun v2 H2 a2 b2 k2 D2 => ?_⟩
          refine ⟨_, rfl, s, sc, ns, 9, rfl, D2, by decide, by decide, fun v3 H3 a3 b3 k3 D3 => ⟨(by show 2 ≤ sizeLine; decide), fun t nt => ?_⟩⟩
          have D4 := D3.sameD (same_upd (o := .tup [.int v2, .int v3]) nt)
          obtain ⟨d', rfl⟩ : ∃ d', d = d' + 1 := ⟨d - 1, by omega⟩
          have ed : ((d' + 1 : Nat) : Int) - 1 = (d' : Int) := by omega
          have k14 : Keep [s] H (upd H3 t (.tup [.int v2, .int v3])) := ((k1.trans k2).trans k3).trans (Keep.same (same_upd nt))
          refine ⟨_, rfl, _, rfl, _, rfl, _, rfl, _, _, rfl, rfl, s, sc, ns, m, d', by rw [← ed]; rfl, D4, h1, h3, by omega, fun v5 p5 H5 k5 D5 P5 f5 d5 => ?_⟩
          refine ⟨_, rfl, _, rfl, _, rfl, _, _, rfl, rfl, s, sc, ns, m, d', by rw [← ed]; rfl, D5, h1, h3, by omega, fun v6 p6 H6 k6 D6 P6 f6 d6 => ?_⟩
          refine ⟨(by show 2 ≤ sizeLine; decide), fun t2 nt2 => ?_⟩
          have P5' := PlH.mono (D5.tups k6) p5 v5 P5
          have e6 : H6 t = some (.tup [.int v2, .int v3]) := D5.tups k6 _ _ (D4.tups k5 _ _ upd_same)
          have s7 : Same H6 (upd H6 t2 (.tup [v5, v6])) := same_upd nt2
          refine ⟨t, t2, _, _, rfl, rfl, SqT.of (s7 _ _ e6), SqT.of upd_same, by simp, by show 4 ≤ sizeLine; decide, fun z => (by cases z), fun _ p np => ?_⟩
          have s8 := s7.trans (same_upd (o := .tup [V.int v2, V.int v3, v5, v6]) np)
          refine k _ (.node v2 v3 p5 p6) _ (((k14.trans k5).trans k6).trans (Keep.same s8)) (D6.sameD s8) ⟨p, v5, v6, rfl, upd_same, P5'.same s8, P6.same s8⟩ ⟨a2, b2, f5, f6⟩ ?_
          show 1 + max p5.deep p6.deep ≤ d' + 1
          omega
end
end Nu
namespace Nu
open PySem PySem.Spec PyProof.Rows L2
theorem smd_ask {H : Hp} {p q : Addr} {ts us : List Addr} {as : List (Int × Int × Bool)} (hp : H p = some (.lst (ts.map V.ref))) (hq : H q = some (.lst (us.map V.ref))) (h1 : AskH H ts as) (h2 : AskH H us as) (hl : as.length ≤ 1000) : SmD H 3 (.ref p) (.ref q) := by
  have l1 := h1.len
  have l2 := h2.len
  refine .inr ⟨p, q, _, _, true, rfl, rfl, hp, hq, by rw [List.length_map, List.length_map]; omega, by rw [List.length_map]; omega, fun i u v e1 e2 => ?_⟩
  rw [List.getElem?_map] at e1 e2
  cases e3 : ts[i]? with
  | none => rw [e3] at e1; cases e1
  | some t =>
    cases e4 : us[i]? with
    | none => rw [e4] at e2; cases e2
    | some t' =>
      rw [e3] at e1
      rw [e4] at e2
      cases e1
      cases e2
      have hi : i < as.length := by rw [← l1]; exact (List.getElem?_eq_some_iff.mp e3).1
      have ex : as[i]? = some as[i] := List.getElem?_eq_getElem hi
      refine .inr ⟨t, t', _, _, false, rfl, rfl, h1.at_ i t _ e3 ex, h2.at_ i t' _ e4 ex, rfl, by show 3 ≤ 1000; decide, fun j u v f1 f2 => .inl ?_⟩
      rw [f1] at f2
      cases f2
      refine ⟨rfl, ?_⟩
      match j, f1 with
      | 0, f1 => cases f1; rfl
      | 1, f1 => cases f1; rfl
      | 2, f1 => cases f1; rfl
      | j + 3, f1 => simp at f1
section
variable {P : Program} {w : World} {K : PySem.W.Frag} {mg : Str → Option Value} {base : Heap} {a : Ad} {fd : Fd}
def spLaw (K : PySem.W.Frag) : Sp := fun vs H Q _ => ∃ (a : Addr) (ns : List Int), vs = [.ref a] ∧ SqL K H a (ns.map V.int) ∧ ns.length ≤ 63 ∧ ∀ H', Q (.bl true) H'
theorem ok_law (T : Txt K mg a fd) : FnOk P w K mg base CX0 9 a.law fd.law ["_law_script"] (spLaw K) := by
  have G_l_start := ok_l_start (P := P) (w := w) (base := base) T
  have G_l_drawn := ok_l_drawn (P := P) (w := w) (base := base) T
  have G_l_plan := ok_l_plan (P := P) (w := w) (base := base) T 6
  have G_walked := ok_walked (P := P) (w := w) (base := base) T
  have G_l_walked := ok_l_walked (P := P) (w := w) (base := base) T 6
  have G_l_same := ok_l_same (P := P) (w := w) (base := base) T 3
  refine T.F_law.ok sc_law (fun vs H Q E h => ?_) (fun cdv A0 outer s0 H vs Q E hr h => ?_)
  · obtain ⟨a, ns, rfl, _⟩ := h
    rfl
  · obtain ⟨sa, ns, rfl, S0, hns, k⟩ := h
    have hu := hu_of hr
    refine ⟨_, (pss_cons (ps_set (i := 1) sc_law.nd rfl (Or.inr rfl) (pe_call G_l_start (hr.mono (by decide)) (by rfl) T.g_l_start T.F_l_start.kp T.b_l_start .nil pass0 (pa_cons (pv 0) pa_nil)))
    (pss_cons (ps_for PassesOwn.never rfl (pi_range1 (by rfl) T.n_range (pa_cons pe_int pa_nil)) (pg_name (i := 2) sc_law.nd rfl (Or.inl rfl))
      (pss_cons (ps_set (i := 3) sc_law.nd rfl (Or.inl rfl) (pe_op op_add pe_int (pe_call G_l_drawn (hr.mono (by decide)) (by rfl) T.g_l_drawn T.F_l_drawn.kp T.b_l_drawn .nil pass0 (pa_cons (pv 1) (pa_cons pe_int pa_nil)))))
    (pss_cons (ps_set (i := 4) sc_law.nd rfl (Or.inl rfl) (pe_call G_l_plan (hr.mono (by decide)) (by rfl) T.g_l_plan T.F_l_plan.kp T.b_l_plan .nil pass0 (pa_cons (pv 1) (pa_cons (pv 3) (pa_cons (pe_call G_l_drawn (hr.mono (by decide)) (by rfl) T.g_l_drawn T.F_l_drawn.kp T.b_l_drawn .nil pass0 (pa_cons (pv 1) (pa_cons pe_int pa_nil))) pa_nil)))))
    (pss_one (ps_for PassesOwn.never rfl (pi_range1 (by rfl) T.n_range (pa_cons pe_int pa_nil)) (pg_name (i := 5) sc_law.nd rfl (Or.inl rfl))
      (pss_cons (ps_set (i := 6) sc_law.nd rfl (Or.inl rfl) (pe_callTy call_tuple_of (by rfl) T.n_tuple (by decide +kernel) (pa_cons (pe_lc (own := [("_law_place", 7)]) (g := gName 7) (by rfl) sc_law.nd (pi_range1 (by rfl) T.n_range (pa_cons (pv 3) pa_nil)) (blkOk_by (own := [("_law_place", 7)]) (N := ["_law_script", "_law_state", "_law_turn", "_law_places", "_law_plan_here", "_law_k", "_law_world", "_law_place", "_law_again", "_law_found"]) (sc := defScope s_law) (by decide +kernel)) (fun _ _ _ _ _ => pg_name (i := 7) sc_law.nd rfl (Or.inl rfl)) (fun _ _ _ _ _ => pts_nil) (fun _ _ _ _ _ => (pe_call G_l_drawn (hr.mono (by decide)) (by rfl) T.g_l_drawn T.F_l_drawn.kp T.b_l_drawn .nil pass0 (pa_cons (pv 1) (pa_cons pe_int pa_nil))))) pa_nil)))
    (pss_one (ps_for PassesOwn.never rfl (pi_range1 (by rfl) T.n_range (pa_cons pe_int pa_nil)) (pg_name (i := 8) sc_law.nd rfl (Or.inl rfl))
      (pss_cons (ps_set (i := 9) sc_law.nd rfl (Or.inl rfl) (pe_call G_walked (hr.mono (by decide)) (by rfl) T.g_walked T.F_walked.kp T.b_walked .nil pass0 (pa_cons (pv 4) (pa_cons (pv 6) pa_nil))))
    (pss_cons (ps_if (pt_not (pt_val (pe_call G_l_same (hr.mono (by decide)) (by rfl) T.g_l_same T.F_l_same.kp T.b_l_same .nil pass0 (pa_cons (pv 9) (pa_cons (pe_call G_l_walked (hr.mono (by decide)) (by rfl) T.g_l_walked T.F_l_walked.kp T.b_l_walked .nil pass0 (pa_cons (pv 4) (pa_cons (pv 6) pa_nil))) pa_nil))))) (pss_one (ps_ret pe_bl)) pss_nil)
    (pss_one (ps_expr (pe_bm0 PySem.F.plainAttrs_list PySem.F.slot_list_clear PySem.F.type_list_clear mt_clear (pv 9))))))))))))))
    (pss_one (ps_ret (pe_call G_l_same (hr.mono (by decide)) (by rfl) T.g_l_same T.F_l_same.kp T.b_l_same .nil pass0 (pa_cons (pe_call G_walked (hr.mono (by decide)) (by rfl) T.g_walked T.F_walked.kp T.b_walked .nil pass0 (pa_cons (pe_tup pa_nil) (pa_cons (pe_tup (pa_cons pe_int pa_nil)) pa_nil))) (pa_cons (pe_lst pa_nil) pa_nil))))))), ?_⟩
    refine ⟨_, rfl, sa, ns, rfl, S0, fun s H1 ns0 sm1 D1 => ?_⟩
    refine gName_go ?_
    refine next_go ?_
    refine seq_go ?_
    refine ⟨_, rfl, by omega, by omega, ?_⟩
    refine for_range (lo := 0) (n := (3 : Int).toNat) (fun i σ H' => ∃ v2 v3 v4 v5 v6 v8 v9 : Option V, σ = [some (.ref sa), some (.ref s), v2, v3, v4, v5, v6, none, v8, v9] ∧ Drw K H' s sa ns) ⟨none, none, none, none, none, none, none, rfl, D1⟩ ?_ ?_
    · rintro i σ H2 hi ⟨v2, v3, v4, v5, v6, v8, v9, rfl, D2⟩
      refine gName_go ?_
      refine ⟨_, rfl, s, sa, ns, 3, rfl, D2, by decide, by decide, fun x1 H3 a1 b1 k3 D3 => ⟨_, _, rfl, rfl, ?_⟩⟩
      obtain ⟨m, hm⟩ := Int.eq_ofNat_of_zero_le (show 0 ≤ 1 + x1 by omega)
      have m1 : 1 ≤ m := by omega
      have m3 : m ≤ 3 := by omega
      show gName 3 (V.int (1 + x1)) _ _ _
      rw [hm]
      refine gName_go ?_
      refine ⟨_, rfl, _, rfl, _, rfl, s, sa, ns, 6, rfl, D3, by decide, by decide, fun x2 H4 a2 b2 k4 D4 => ?_⟩
      obtain ⟨d, rfl⟩ := Int.eq_ofNat_of_zero_le a2
      refine ⟨s, sa, ns, m, d, rfl, D4, m1, m3, by omega, fun vp pl H5 k5 D5 P5 f5 d5 => ?_⟩
      refine gName_go ?_
      refine ⟨_, rfl, by omega, by omega, ?_⟩
      refine for_range (lo := 0) (n := (6 : Int).toNat) (fun i2 σ H' => ∃ v5 v6 v8 v9 : Option V, σ = [some (.ref sa), some (.ref s), some (.int (0 + (i : Int))), some (.int (m : Int)), some vp, v5, v6, none, v8, v9] ∧ Drw K H' s sa ns ∧ PlH H' vp pl) ⟨v5, v6, v8, v9, rfl, D5, P5⟩ ?_ ?_
      · rintro i2 σ H6 hi2 ⟨v5, v6, v8, v9, rfl, D6, P6⟩
        refine gName_go ?_
        refine ⟨_, rfl, _, rfl, by omega, by omega, fun D nD => ?_⟩
        have sD : s ≠ D := fun z => D6.ns nD (by rw [z]; exact List.mem_singleton.mpr rfl)
        have kD : ∀ {H7 : Hp} {u : HO}, Keep [s] H6 H7 → Keep [s] H6 (upd H7 D u) := fun {H7 u} k7 c o e n => by
          rw [upd_ne (fun z => by rw [z, nD] at e; cases e)]
          exact k7 c o e n
        refine lc_range (lo := 0) (n := ((m : Int)).toNat) (fun j H' => ∃ xs : List Int, xs.length = j ∧ Keep [s] H6 H' ∧ Drw K H' s sa ns ∧ H' D = some (.lst (xs.map V.int)))
          ⟨[], rfl, Keep.same (same_upd nD), D6.new nD, upd_same⟩ ?_ ?_
        · rintro j H7 hj ⟨xs, hxs, k7, D7, hD⟩
          refine ⟨wipe1 _ _ _, ?_⟩
          dsimp only [tYes]
          rw [if_pos rfl]
          refine ⟨_, rfl, s, sa, ns, 9, rfl, D7, by decide, by decide, fun y H8 y0 y1 k8 D8 => ?_⟩
          have hD8 : H8 D = some (.lst (xs.map V.int)) := k8 _ _ hD (fun z => sD (List.mem_singleton.mp z).symm)
          refine ⟨_, hD8, small1000 (by rw [List.length_map]; omega), xs ++ [y], by rw [List.length_append, hxs]; rfl, kD (k7.trans k8), D6.over (k7.trans k8) D8 nD, ?_⟩
          rw [upd_same, List.map_append]
          rfl
        · rintro H7 ⟨xs, hxs, k7, D7, hD⟩
          rw [Int.toNat_natCast] at hxs
          refine ⟨D, _, rfl, .inl ⟨SqL.of hD, fun l nl => ?_⟩⟩
          have D8 := D7.new (o := .tup (xs.map V.int)) nl
          have P8 : PlH (upd H7 l (.tup (xs.map V.int))) vp pl := (PlH.mono (D6.tups k7) pl vp P6).same (same_upd nl)
          refine gName_go ?_
          refine ⟨_, rfl, by omega, by omega, ?_⟩
          refine for_range (lo := 0) (n := (2 : Int).toNat) (fun i3 σ H' => ∃ v8 v9 : Option V, σ = [some (.ref sa), some (.ref s), some (.int (0 + (i : Int))), some (.int (m : Int)), some vp, some (.int (0 + (i2 : Int))), some (.ref l), none, v8, v9] ∧ Drw K H' s sa ns ∧ PlH H' vp pl ∧ H' l = some (.tup (xs.map V.int))) ⟨v8, v9, rfl, D8, P8, upd_same⟩ ?_ ?_
          · rintro i3 σ H9 hi3 ⟨v8, v9, rfl, D9, P9, hl9⟩
            refine gName_go ?_
            refine ⟨_, rfl, _, rfl, vp, l, pl, xs, rfl, P9, hl9, by rw [hxs]; exact f5, by omega, fun r ts H10 s10 nr hr10 hA10 => ?_⟩
            refine gName_go ?_
            refine seq_go ?_
            refine ⟨_, rfl, _, rfl, _, rfl, vp, l, pl, xs, rfl, P9.same s10, s10 _ _ hl9, by rw [hxs]; exact f5, by omega, by omega, fun r2 ts2 H11 s11 nr2 hr11 hA11 => ?_⟩
            have s911 := s10.trans s11
            have wl := Pl.walk_len xs pl
            refine ⟨.ref r, .ref r2, rfl, smd_ask (s11 _ _ hr10) hr11 (hA10.mono fun c xs z => s11 _ _ z) hA11 (by omega), fun H12 s12 => ⟨_, rfl, iteF ?_⟩⟩
            have s912 := s911.trans s12
            have hr12 : H12 r = some (.lst (ts.map V.ref)) := s12 _ _ (s11 _ _ hr10)
            refine next_go ?_
            refine ⟨_, rfl, .inl ⟨rfl, _, SqL.of hr12⟩, r, _, rfl, rfl, hr12, ?_⟩
            have k13 : Same H9 (upd H12 r (.lst [])) := fun c u e => by
              rw [upd_ne (fun z => by rw [z, nr] at e; cases e)]
              exact s912 c u e
            exact ⟨_, _, rfl, D9.same k13, P9.same k13, k13 _ _ hl9⟩
          · rintro σ H9 ⟨v8, v9, rfl, D9, P9, hl9⟩
            exact ⟨_, _, _, _, rfl, D9, P9⟩
      · rintro σ H6 ⟨v5, v6, v8, v9, rfl, D6, P6⟩
        exact ⟨_, _, _, _, _, _, _, rfl, D6⟩
    · rintro σ H2 ⟨v2, v3, v4, v5, v6, v8, v9, rfl, D2⟩
      refine next_go ?_
      refine ⟨Nat.zero_le _, fun e1 n1 => ⟨(by show 1 ≤ sizeLine; decide), fun e2 n2 => ?_⟩⟩
      refine ⟨.ref e1, e2, .leaf, [1], rfl, ⟨e1, rfl, same_upd n2 _ _ upd_same⟩, upd_same, trivial, Nat.zero_le _, fun r ts H3 s3 nr hr3 hA3 => ?_⟩
      refine ⟨Nat.zero_le _, fun l nl => ?_⟩
      refine ⟨.ref r, .ref l, rfl, smd_ask (ts := ts) (us := []) (as := []) (same_upd nl _ _ hr3) upd_same (hA3.mono fun c xs z => same_upd nl _ _ z) AskH.nil (Nat.zero_le _), fun H4 s4 => k _⟩
end
end Nu
namespace Nu
open PySem PySem.Spec PyProof.Rows L2
theorem all_mk {l : PySem.W.OpenLaw} {w : World} {K : PySem.W.Frag} {h : Heap} {mg : Str → Option Value} {fa : Addr} (X : K.In h) (G : h.Ns mainGlobals mg) (hfa : mg "law" = some (.ref fa))
    {f_walked : Addr} {od_walked an_walked : Option Addr} {sl_walked : Array (Option Value)} {oc_walked kV_walked dc_walked pm_walked cd_walked ct_walked : Value}
    {f_l_start : Addr} {od_l_start an_l_start : Option Addr} {sl_l_start : Array (Option Value)} {oc_l_start kV_l_start dc_l_start pm_l_start cd_l_start ct_l_start : Value}
    {f_l_drawn : Addr} {od_l_drawn an_l_drawn : Option Addr} {sl_l_drawn : Array (Option Value)} {oc_l_drawn kV_l_drawn dc_l_drawn pm_l_drawn cd_l_drawn ct_l_drawn : Value}
    {f_l_same : Addr} {od_l_same an_l_same : Option Addr} {sl_l_same : Array (Option Value)} {oc_l_same kV_l_same dc_l_same pm_l_same cd_l_same ct_l_same : Value}
    {f_l_plan : Addr} {od_l_plan an_l_plan : Option Addr} {sl_l_plan : Array (Option Value)} {oc_l_plan kV_l_plan dc_l_plan pm_l_plan cd_l_plan ct_l_plan : Value}
    {f_l_walked : Addr} {od_l_walked an_l_walked : Option Addr} {sl_l_walked : Array (Option Value)} {oc_l_walked kV_l_walked dc_l_walked pm_l_walked cd_l_walked ct_l_walked : Value}
    {f_law : Addr} {od_law an_law : Option Addr} {sl_law : Array (Option Value)} {oc_law kV_law dc_law pm_law cd_law ct_law : Value}
    (hn_len : PySem.W.nsIn K mainGlobals "len" = some none)
    (hn_range : PySem.W.nsIn K mainGlobals "range" = some none)
    (hn_tuple : PySem.W.nsIn K mainGlobals "tuple" = some none)
    (hn_list : PySem.W.nsIn K mainGlobals "list" = some none)
    (hn_isinstance : PySem.W.nsIn K mainGlobals "isinstance" = some none)
    (hn_int : PySem.W.nsIn K mainGlobals "int" = some none)
    (hn_str : PySem.W.nsIn K mainGlobals "str" = some none)
    (hn_bool : PySem.W.nsIn K mainGlobals "bool" = some none)
    (ha_walked : PySem.W.nsIn K mainGlobals "walked" = some (some (.ref f_walked)))
    (hl_walked : K.lookup f_walked = some ⟨oc_walked, od_walked, .func (PySem.W.fnOf "walked" "walked" (defArgs s_walked) (defBody s_walked) (defScope s_walked) .none kV_walked dc_walked pm_walked an_walked cd_walked ct_walked), sl_walked⟩)
    (hd_walked : PySem.W.codeIn K cd_walked "walked" = true)
    (hk_walked : PySem.W.keepIn K (.ref f_walked) = true)
    (ha_l_start : PySem.W.nsIn K mainGlobals "_law_start" = some (some (.ref f_l_start)))
    (hl_l_start : K.lookup f_l_start = some ⟨oc_l_start, od_l_start, .func (PySem.W.fnOf "_law_start" "_law_start" (defArgs s_l_start) (defBody s_l_start) (defScope s_l_start) .none kV_l_start dc_l_start pm_l_start an_l_start cd_l_start ct_l_start), sl_l_start⟩)
    (hd_l_start : PySem.W.codeIn K cd_l_start "_law_start" = true)
    (hk_l_start : PySem.W.keepIn K (.ref f_l_start) = true)
    (ha_l_drawn : PySem.W.nsIn K mainGlobals "_law_drawn" = some (some (.ref f_l_drawn)))
    (hl_l_drawn : K.lookup f_l_drawn = some ⟨oc_l_drawn, od_l_drawn, .func (PySem.W.fnOf "_law_drawn" "_law_drawn" (defArgs s_l_drawn) (defBody s_l_drawn) (defScope s_l_drawn) .none kV_l_drawn dc_l_drawn pm_l_drawn an_l_drawn cd_l_drawn ct_l_drawn), sl_l_drawn⟩)
    (hd_l_drawn : PySem.W.codeIn K cd_l_drawn "_law_drawn" = true)
    (hk_l_drawn : PySem.W.keepIn K (.ref f_l_drawn) = true)
    (ha_l_same : PySem.W.nsIn K mainGlobals "_law_same" = some (some (.ref f_l_same)))
    (hl_l_same : K.lookup f_l_same = some ⟨oc_l_same, od_l_same, .func (PySem.W.fnOf "_law_same" "_law_same" (defArgs s_l_same) (defBody s_l_same) (defScope s_l_same) .none kV_l_same dc_l_same pm_l_same an_l_same cd_l_same ct_l_same), sl_l_same⟩)
    (hd_l_same : PySem.W.codeIn K cd_l_same "_law_same" = true)
    (hk_l_same : PySem.W.keepIn K (.ref f_l_same) = true)
    (ha_l_plan : PySem.W.nsIn K mainGlobals "_law_plan" = some (some (.ref f_l_plan)))
    (hl_l_plan : K.lookup f_l_plan = some ⟨oc_l_plan, od_l_plan, .func (PySem.W.fnOf "_law_plan" "_law_plan" (defArgs s_l_plan) (defBody s_l_plan) (defScope s_l_plan) .none kV_l_plan dc_l_plan pm_l_plan an_l_plan cd_l_plan ct_l_plan), sl_l_plan⟩)
    (hd_l_plan : PySem.W.codeIn K cd_l_plan "_law_plan" = true)
    (hk_l_plan : PySem.W.keepIn K (.ref f_l_plan) = true)
    (ha_l_walked : PySem.W.nsIn K mainGlobals "_law_walked" = some (some (.ref f_l_walked)))
    (hl_l_walked : K.lookup f_l_walked = some ⟨oc_l_walked, od_l_walked, .func (PySem.W.fnOf "_law_walked" "_law_walked" (defArgs s_l_walked) (defBody s_l_walked) (defScope s_l_walked) .none kV_l_walked dc_l_walked pm_l_walked an_l_walked cd_l_walked ct_l_walked), sl_l_walked⟩)
    (hd_l_walked : PySem.W.codeIn K cd_l_walked "_law_walked" = true)
    (hk_l_walked : PySem.W.keepIn K (.ref f_l_walked) = true)
    (ha_law : PySem.W.nsIn K mainGlobals "law" = some (some (.ref f_law)))
    (hl_law : K.lookup f_law = some ⟨oc_law, od_law, .func (PySem.W.fnOf "law" "law" (defArgs s_law) (defBody s_law) (defScope s_law) .none kV_law dc_law pm_law an_law cd_law ct_law), sl_law⟩)
    (hd_law : PySem.W.codeIn K cd_law "law" = true)
    (hk_law : PySem.W.keepIn K (.ref f_law) = true)
    : ∃ fd : FuncData, (∀ (s : Shared) (v : Value), BindsTo s fd ⟨[v], []⟩ [("_law_script", v)]) ∧ ∀ base : Heap, K.In base → base.Ns mainGlobals mg → FnOk l.prog w K mg base CX0 9 fa fd ["_law_script"] (spLaw K) := by
  have e := hfa.symm.trans (PySem.W.mg_of X G ha_law)
  cases e
  have F_walked := fun_mk (st := s_walked) hl_walked hd_walked hk_walked
  have F_l_start := fun_mk (st := s_l_start) hl_l_start hd_l_start hk_l_start
  have F_l_drawn := fun_mk (st := s_l_drawn) hl_l_drawn hd_l_drawn hk_l_drawn
  have F_l_same := fun_mk (st := s_l_same) hl_l_same hd_l_same hk_l_same
  have F_l_plan := fun_mk (st := s_l_plan) hl_l_plan hd_l_plan hk_l_plan
  have F_l_walked := fun_mk (st := s_l_walked) hl_l_walked hd_l_walked hk_l_walked
  have F_law := fun_mk (st := s_law) hl_law hd_law hk_law
  let ad : Ad := { walked := f_walked, l_start := f_l_start, l_drawn := f_l_drawn, l_same := f_l_same, l_plan := f_l_plan, l_walked := f_l_walked, law := fa }
  let fd : Fd := { walked := PySem.W.fnOf "walked" "walked" (defArgs s_walked) (defBody s_walked) (defScope s_walked) .none kV_walked dc_walked pm_walked an_walked cd_walked ct_walked, l_start := PySem.W.fnOf "_law_start" "_law_start" (defArgs s_l_start) (defBody s_l_start) (defScope s_l_start) .none kV_l_start dc_l_start pm_l_start an_l_start cd_l_start ct_l_start, l_drawn := PySem.W.fnOf "_law_drawn" "_law_drawn" (defArgs s_l_drawn) (defBody s_l_drawn) (defScope s_l_drawn) .none kV_l_drawn dc_l_drawn pm_l_drawn an_l_drawn cd_l_drawn ct_l_drawn, l_same := PySem.W.fnOf "_law_same" "_law_same" (defArgs s_l_same) (defBody s_l_same) (defScope s_l_same) .none kV_l_same dc_l_same pm_l_same an_l_same cd_l_same ct_l_same, l_plan := PySem.W.fnOf "_law_plan" "_law_plan" (defArgs s_l_plan) (defBody s_l_plan) (defScope s_l_plan) .none kV_l_plan dc_l_plan pm_l_plan an_l_plan cd_l_plan ct_l_plan, l_walked := PySem.W.fnOf "_law_walked" "_law_walked" (defArgs s_l_walked) (defBody s_l_walked) (defScope s_l_walked) .none kV_l_walked dc_l_walked pm_l_walked an_l_walked cd_l_walked ct_l_walked, law := PySem.W.fnOf "law" "law" (defArgs s_law) (defBody s_law) (defScope s_law) .none kV_law dc_law pm_law an_law cd_law ct_law }
  have T : Txt K mg ad fd := {
    n_len := PySem.W.mg_none_of X G hn_len,
    n_range := PySem.W.mg_none_of X G hn_range,
    n_tuple := PySem.W.mg_none_of X G hn_tuple,
    n_list := PySem.W.mg_none_of X G hn_list,
    n_isinstance := PySem.W.mg_none_of X G hn_isinstance,
    n_int := PySem.W.mg_none_of X G hn_int,
    n_str := PySem.W.mg_none_of X G hn_str,
    n_bool := PySem.W.mg_none_of X G hn_bool,
    F_walked := F_walked,
    b_walked := F_walked.binds (ps := ["plan", "world"]) fun _ _ _ _ _ _ us hl => match us, hl with | [_, _], _ => rfl,
    g_walked := PySem.W.mg_of X G ha_walked,
    F_l_start := F_l_start,
    b_l_start := F_l_start.binds (ps := ["_law_script"]) fun _ _ _ _ _ _ us hl => match us, hl with | [_], _ => rfl,
    g_l_start := PySem.W.mg_of X G ha_l_start,
    F_l_drawn := F_l_drawn,
    b_l_drawn := F_l_drawn.binds (ps := ["_law_state", "_law_many"]) fun _ _ _ _ _ _ us hl => match us, hl with | [_, _], _ => rfl,
    g_l_drawn := PySem.W.mg_of X G ha_l_drawn,
    F_l_same := F_l_same,
    b_l_same := F_l_same.binds (ps := ["_law_found", "_law_due"]) fun _ _ _ _ _ _ us hl => match us, hl with | [_, _], _ => rfl,
    g_l_same := PySem.W.mg_of X G ha_l_same,
    F_l_plan := F_l_plan,
    b_l_plan := F_l_plan.binds (ps := ["_law_state", "_law_places", "_law_deep"]) fun _ _ _ _ _ _ us hl => match us, hl with | [_, _, _], _ => rfl,
    g_l_plan := PySem.W.mg_of X G ha_l_plan,
    F_l_walked := F_l_walked,
    b_l_walked := F_l_walked.binds (ps := ["_law_plan_here", "_law_world"]) fun _ _ _ _ _ _ us hl => match us, hl with | [_, _], _ => rfl,
    g_l_walked := PySem.W.mg_of X G ha_l_walked,
    F_law := F_law,
    b_law := F_law.binds (ps := ["_law_script"]) fun _ _ _ _ _ _ us hl => match us, hl with | [_], _ => rfl,
    g_law := PySem.W.mg_of X G ha_law }
  exact ⟨fd.law, fun s v => .of_eq rfl, fun base _ _ => ok_law T⟩
theorem walk {l : PySem.W.OpenLaw} {q : Program} {loose : List Str} {XP : (Str → Option Value) → Heap → Prop} {YP : World → Heap → Prop} {d : DefRec} {K : Params → PySem.W.Frag} (hn : l.most = some 63) (hdf : d.params.defaults = [])
    (hY : ∀ (w : World) (h : Heap), YP w h → (K w.params).In h)
    (F : ∀ (w : World) (mg : Str → Option Value) (fa : Addr) (h : Heap), (K w.params).In h → h.Ns mainGlobals mg → mg d.name = some (.ref fa) →
      ∃ fd : FuncData, (∀ (s : Shared) (u : Value), BindsTo s fd ⟨[u], []⟩ [("_law_script", u)]) ∧ ∀ base : Heap, (K w.params).In base → base.Ns mainGlobals mg → FnOk l.prog w (K w.params) mg base CX0 9 fa fd ["_law_script"] (spLaw (K w.params))) :
    PySem.W.WalkO q loose XP YP l.row.toRowW d [] (fun f vs => PySem.call f vs) :=
  L2.walk_of (n := 63) (k := 9) (x := "_law_script") (CX := fun _ => CX0) (sp := fun w => spLaw (K w.params)) hn (by decide) hdf ⟨rfl, by decide, by decide⟩ hY F (fun _ _ a ns hl _ hS => ⟨a, ns, rfl, hS, hl, fun _ => rfl⟩) fun _ _ _ _ _ z => z
end Nu
open PySem PySem.W PyProof.Rows in
set_option maxRecDepth 100000 in
set_option maxHeartbeats 0 in
theorem PySem.Challenge.cw_numbergaps_k10_plans_walked_holds : PySem.Challenge.rw_numbergaps_k10_plans_walked.Holds := by
  w_on; o_law; k_head; (case hw => w_witness2)
  k_fill
  refine Nu.walk (l := PySem.Challenge.rw_numbergaps_k10_plans_walked) rfl rfl (fun w h Y => PySem.W.kIn_of Y) ?F
  case F =>
    intro w mg fa h KX G hmg
    refine' Nu.all_mk KX G hmg ?hn_len ?hn_range ?hn_tuple ?hn_list ?hn_isinstance ?hn_int ?hn_str ?hn_bool ?ha_walked ?hl_walked ?hd_walked ?hk_walked ?ha_l_start ?hl_l_start ?hd_l_start ?hk_l_start ?ha_l_drawn ?hl_l_drawn ?hd_l_drawn ?hk_l_drawn ?ha_l_same ?hl_l_same ?hd_l_same ?hk_l_same ?ha_l_plan ?hl_l_plan ?hd_l_plan ?hk_l_plan ?ha_l_walked ?hl_l_walked ?hd_l_walked ?hk_l_walked ?ha_law ?hl_law ?hd_law ?hk_law
    (case hn_len => k_is)
    (case hn_range => k_is)
    (case hn_tuple => k_is)
    (case hn_list => k_is)
    (case hn_isinstance => k_is)
    (case hn_int => k_is)
    (case hn_str => k_is)
    (case hn_bool => k_is)
    (case ha_walked => k_is)
    (case hl_walked => k_is)
    (case hd_walked => k_is)
    (case hk_walked => k_is)
    (case ha_l_start => k_is)
    (case hl_l_start => k_is)
    (case hd_l_start => k_is)
    (case hk_l_start => k_is)
    (case ha_l_drawn => k_is)
    (case hl_l_drawn => k_is)
    (case hd_l_drawn => k_is)
    (case hk_l_drawn => k_is)
    (case ha_l_same => k_is)
    (case hl_l_same => k_is)
    (case hd_l_same => k_is)
    (case hk_l_same => k_is)
    (case ha_l_plan => k_is)
    (case hl_l_plan => k_is)
    (case hd_l_plan => k_is)
    (case hk_l_plan => k_is)
    (case ha_l_walked => k_is)
    (case hl_l_walked => k_is)
    (case hd_l_walked => k_is)
    (case hk_l_walked => k_is)
    (case ha_law => k_is)
    (case hl_law => k_is)
    (case hd_law => k_is)
    (case hk_law => k_is)
