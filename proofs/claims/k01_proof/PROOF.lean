import PyProof.Rows.All
import Wide.All
import OpenK.AllK
import Wide.FinOn
import HandS.ForMost
import HandS.ForExc
import HandS.DictComp
import HandS.FStr
import HandS.Small
import HandS.IsInst
import HandS.ExcIs
import HandS.Wide
import HandS.SortInts
import HandS.Conv
import HandS.Zip
import HandS.Flow
import HandS.Lambda
import PySem.Challenge.RW_numbergaps_k01_offices_and_desks
import HandS.SortKw
import HandS.EndOwn
set_option Elab.async false
set_option linter.all false
set_option maxRecDepth 100000
set_option maxHeartbeats 4000000
namespace Nu
open PySem L2
/-! ### plain mathematics -/
theorem le_of_nodup : ∀ (n : Nat) (l : List Int), l.Nodup → (∀ x ∈ l, 1 ≤ x ∧ x ≤ (n : Int)) → l.length ≤ n
  | 0, l, _, h => by
    cases l with
    | nil => exact Nat.le_refl _
    | cons x r => have := h x List.mem_cons_self; omega
  | n + 1, l, nd, h => by
    have h1 : (l.filter fun x => decide (x ≠ ((n : Int) + 1))).length ≤ n := by
      refine le_of_nodup n _ (nd.filter _) fun x hx => ?_
      obtain ⟨m, e⟩ := List.mem_filter.mp hx
      have := h x m
      have e' : x ≠ (n : Int) + 1 := by simpa using e
      omega
    have h2 : l.length ≤ (l.filter fun x => decide (x ≠ ((n : Int) + 1))).length + 1 := by
      have aux : ∀ (l : List Int), l.Nodup → l.length ≤ (l.filter fun x => decide (x ≠ ((n : Int) + 1))).length + 1 := by
        intro l
        induction l with
        | nil => intro _; exact Nat.zero_le _
        | cons x r ih =>
          intro nd
          obtain ⟨hx, nr⟩ := List.nodup_cons.mp nd
          by_cases e : x = (n : Int) + 1
          · have er : r.filter (fun x => decide (x ≠ ((n : Int) + 1))) = r := by
              refine List.filter_eq_self.mpr fun y hy => ?_
              have : y ≠ (n : Int) + 1 := fun z => hx (by rw [e, ← z]; exact hy)
              simpa using this
            rw [List.filter_cons_of_neg (by simp [e]), er]
            simp
          · rw [List.filter_cons_of_pos (by simpa using e)]
            have := ih nr
            simp only [List.length_cons]
            omega
      exact aux l nd
    omega
/-! ### the dict of states -/
def stK (top : Nat) (st : Int → Str) : List (Key × V) := (List.range top).map fun (i : Nat) => ((Sum.inl ((i : Int) + 1) : Key), V.str (st ((i : Int) + 1)))
theorem stK_succ (top : Nat) (st : Int → Str) : stK (top + 1) st = stK top st ++ [((Sum.inl ((top : Int) + 1) : Key), V.str (st ((top : Int) + 1)))] := by
  unfold stK
  rw [List.range_succ, List.map_append]
  rfl
theorem stK_length (top : Nat) (st : Int → Str) : (stK top st).length = top := by
  unfold stK
  rw [List.length_map, List.length_range]
theorem valV_app {kvs : List (Key × V)} {k j : Key} {y : V} (h : valV kvs k = none) : valV (kvs ++ [(k, y)]) j = if j = k then some y else valV kvs j := valV_snoc k j y kvs h
theorem valV_stK : ∀ (top : Nat) (st : Int → Str) (n : Int), valV (stK top st) (Sum.inl n) = if 1 ≤ n ∧ n ≤ (top : Int) then some (.str (st n)) else none
  | 0, st, n => by
    rw [if_neg (by omega)]
    rfl
  | top + 1, st, n => by
    have h0 : valV (stK top st) (Sum.inl ((top : Int) + 1)) = none := by
      rw [valV_stK top st, if_neg (by omega)]
    rw [stK_succ, valV_app h0]
    by_cases e : n = (top : Int) + 1
    · subst e
      rw [if_pos rfl, if_pos (by omega)]
    · rw [if_neg (fun z => e (Sum.inl.inj z)), valV_stK top st n]
      by_cases c : 1 ≤ n ∧ n ≤ (top : Int)
      · rw [if_pos c, if_pos (by omega)]
      · rw [if_neg c, if_neg (by omega)]
theorem putK_stK (top : Nat) (st : Int → Str) (n : Int) (s : Str) (h : 1 ≤ n ∧ n ≤ (top : Int)) : putK (stK top st) (Sum.inl n) (.str s) = stK top (fun m => if m = n then s else st m) := by
  unfold putK
  rw [valV_any, valV_stK, if_pos h]
  rw [if_pos (by rfl)]
  unfold stK
  rw [List.map_map]
  refine List.map_congr_left fun i _ => ?_
  show (if (Sum.inl ((i : Int) + 1) : Key) = Sum.inl n then ((Sum.inl ((i : Int) + 1) : Key), V.str s) else ((Sum.inl ((i : Int) + 1) : Key), V.str (st ((i : Int) + 1)))) = _
  by_cases e : (i : Int) + 1 = n
  · rw [if_pos (by rw [e])]
    show _ = ((Sum.inl ((i : Int) + 1) : Key), V.str (if (i : Int) + 1 = n then s else st ((i : Int) + 1)))
    rw [if_pos e]
  · rw [if_neg (fun z => e (Sum.inl.inj z))]
    show _ = ((Sum.inl ((i : Int) + 1) : Key), V.str (if (i : Int) + 1 = n then s else st ((i : Int) + 1)))
    rw [if_neg e]
theorem stK_grow (top : Nat) (st : Int → Str) : putK (stK top st) (Sum.inl ((top : Int) + 1)) (.str (st ((top : Int) + 1))) = stK (top + 1) st := by
  rw [putK_new _ (by rw [valV_stK, if_neg (by omega)]), stK_succ]
theorem stK_keys (top : Nat) (st : Int → Str) : (stK top st).map (fun kv => kV kv.1) = (List.range top).map fun (i : Nat) => V.int ((i : Int) + 1) := by
  unfold stK
  rw [List.map_map]
  rfl
/-! ### an office, as data -/
structure Of where
  top : Nat
  st : Int → Str
  ho : Int → Option Int
  sg : List Str
  le : List (List Int)
structure Wf (o : Of) : Prop where
  t1 : 1 ≤ o.top
  t400 : o.top ≤ 400
  d1 : 1 ≤ o.le.length
  d6 : o.le.length ≤ 6
  sl : o.sg.length = o.le.length
  own : ∀ (d : Nat) (ns : List Int), o.le[d]? = some ns → ns.Nodup ∧ ∀ n ∈ ns, 1 ≤ n ∧ n ≤ (o.top : Int) ∧ o.ho n = some (d : Int)
  hol : ∀ (n d : Int), o.ho n = some d → ∃ ns, 0 ≤ d ∧ o.le[d.toNat]? = some ns ∧ n ∈ ns
  fre : ∀ n, o.st n = "free" → o.ho n = none
theorem Wf.len400 {o : Of} (w : Wf o) {d : Nat} {ns : List Int} (h : o.le[d]? = some ns) : ns.length ≤ 400 := by
  obtain ⟨nd, hn⟩ := w.own d ns h
  have := le_of_nodup o.top ns nd fun x hx => ⟨(hn x hx).1, (hn x hx).2.1⟩
  have := w.t400
  omega
/-- the holders' dict tells ho -/
structure HolK (hk : List (Key × V)) (o : Of) : Prop where
  nd : (hk.map (·.1)).Nodup
  at_ : ∀ n : Int, valV hk (Sum.inl n) = (o.ho n).map V.int
  tx : ∀ x : Str, valV hk (Sum.inr x) = none
theorem valV_mem {kvs : List (Key × V)} {k : Key} (h : k ∈ kvs.map (·.1)) : ∃ v, valV kvs k = some v := by
  cases e : valV kvs k with
  | none => exact absurd h (valV_not e)
  | some v => exact ⟨v, rfl⟩
def keyI : Key → Int
  | .inl i => i
  | .inr _ => 0
theorem HolK.le {hk : List (Key × V)} {o : Of} (h : HolK hk o) (w : Wf o) : hk.length ≤ 400 := by
  have kin : ∀ k ∈ hk.map (·.1), ∃ n : Int, k = Sum.inl n ∧ 1 ≤ n ∧ n ≤ (o.top : Int) := by
    intro k hk'
    obtain ⟨v, e⟩ := valV_mem hk'
    cases k with
    | inr x => rw [h.tx x] at e; cases e
    | inl n =>
      rw [h.at_ n] at e
      cases eo : o.ho n with
      | none => rw [eo] at e; cases e
      | some d =>
        obtain ⟨ns, h0, h1, h2⟩ := w.hol n d eo
        have := (w.own _ _ h1).2 n h2
        exact ⟨n, rfl, this.1, this.2.1⟩
  have nd2 : ∀ (l : List Key), l.Nodup → (∀ k ∈ l, ∃ n : Int, k = Sum.inl n ∧ 1 ≤ n ∧ n ≤ (o.top : Int)) → (l.map keyI).Nodup := by
    intro l
    induction l with
    | nil => intro _ _; exact List.nodup_nil
    | cons k r ih =>
      intro nd hh
      obtain ⟨hx, nr⟩ := List.nodup_cons.mp nd
      refine List.nodup_cons.mpr ⟨fun m => ?_, ih nr fun k' hk' => hh k' (List.mem_cons_of_mem _ hk')⟩
      obtain ⟨k', hk', e⟩ := List.mem_map.mp m
      obtain ⟨n, en, _⟩ := hh k List.mem_cons_self
      obtain ⟨n', en', _⟩ := hh k' (List.mem_cons_of_mem _ hk')
      rw [en, en'] at e
      have e' : n' = n := e
      exact hx (by rw [en, ← e', ← en']; exact hk')
  have h1 : ((hk.map (·.1)).map keyI).length ≤ o.top := by
    refine le_of_nodup o.top _ (nd2 _ h.nd kin) fun x hx => ?_
    obtain ⟨k, hk', e⟩ := List.mem_map.mp hx
    obtain ⟨n, en, b⟩ := kin k hk'
    rw [en] at e
    have e' : n = x := e
    rw [← e']
    exact b
  rw [List.length_map, List.length_map] at h1
  have := w.t400
  omega
/-! ### heaps -/
/-- what is tracked outside of F stays -/
def Keep (F : List Addr) (H H' : Hp) : Prop := ∀ c o, H c = some o → c ∉ F → H' c = some o
theorem Keep.refl (F : List Addr) (H : Hp) : Keep F H H := fun _ _ h _ => h
theorem Keep.trans {F : List Addr} {H H1 H2 : Hp} (a : Keep F H H1) (b : Keep F H1 H2) : Keep F H H2 := fun c o h n => b c o (a c o h n) n
theorem Keep.same {F : List Addr} {H H' : Hp} (s : Same H H') : Keep F H H' := fun c o h _ => s c o h
theorem keep_upd {F : List Addr} {H : Hp} {a : Addr} {o : HO} (h : a ∈ F ∨ H a = none) : Keep F H (upd H a o) := fun c u e n => by
  have ne : c ≠ a := fun z => by
    rcases h with h | h
    · exact n (by rw [z]; exact h)
    · rw [z, h] at e; cases e
  rw [upd_ne ne]
  exact e
theorem same_upd {H : Hp} {a : Addr} {o : HO} (h : H a = none) : Same H (upd H a o) := fun c u e => by
  rw [upd_ne (fun z => by rw [z, h] at e; cases e)]
  exact e
end Nu
namespace Cl
open PySem PySem.Spec PyProof.Rows L2
/-! ### cells and closures that outlive their frame -/
/-- a cell that holds v -/
def CellO (c : Addr) (v : V) : HO := .ext fun h => ∃ w, h.IsCell c (some w) ∧ RelV v w
/-- a lambda's text -/
structure LamD where
  params : Arguments
  body : Expr
  scope : Scope
/-- the closure at f -/
def LamO (f : Addr) (q : Str) (D : LamD) (cells : List (Str × Addr)) (c' : Addr) : HO := .ext fun h => ∃ pm ctv, h.get? f = some (PySem.W.kla_obj "<lambda>" q D.params D.body D.scope (cloFrom cells D.scope.names []) pm c' ctv)
theorem cell_ok {P : Program} {w : World} {H : Hp} {h : Heap} {c : Addr} {v : V} {u : Value} (e : h.IsCell c (some u)) (r : RelV v u) : ObjOk P w H h c (CellO c v) := by
  obtain ⟨o, ho, hd⟩ := id e
  refine ⟨⟨u, e, r⟩, ⟨o, ho⟩, fun h1 h2 ⟨w', ⟨o', e1, e2⟩, r'⟩ st => ⟨w', ⟨o', st o' e1, e2⟩, r'⟩⟩
theorem lam_ok {P : Program} {w : World} {H : Hp} {h : Heap} {f c' : Addr} {q : Str} {D : LamD} {cells : List (Str × Addr)} {pm ctv : Value} (e : h.get? f = some (PySem.W.kla_obj "<lambda>" q D.params D.body D.scope (cloFrom cells D.scope.names []) pm c' ctv)) : ObjOk P w H h f (LamO f q D cells c') :=
  ⟨⟨pm, ctv, e⟩, ⟨_, e⟩, fun h1 h2 ⟨pm, ctv, e⟩ st => ⟨pm, ctv, st _ e⟩⟩
theorem cellO_ne {c b : Addr} {v : V} {H : Hp} (h : H c = some (CellO c v)) : (∀ xs, H c ≠ some (.tup xs)) ∧ (∀ o u, H c ≠ some (.frz o u)) ∧ (∀ ps, H c ≠ some (.tbl ps)) ∧ H c ≠ some (.own b) := by
  unfold CellO at h
  rw [h]
  exact ⟨fun _ z => (by cases z), fun _ _ z => (by cases z), fun _ z => (by cases z), fun z => (by cases z)⟩
/-- without the objects cs -/
def rmC (H : Hp) (cs : List Addr) : Hp := fun b => if b ∈ cs then none else H b
/-- the objects cs as they were -/
def putC (H H' : Hp) (cs : List Addr) : Hp := fun b => if b ∈ cs then H b else H' b
theorem rmC_in {H : Hp} {cs : List Addr} {b : Addr} (h : b ∈ cs) : rmC H cs b = none := if_pos h
theorem rmC_out {H : Hp} {cs : List Addr} {b : Addr} (h : b ∉ cs) : rmC H cs b = H b := if_neg h
theorem putC_in {H H' : Hp} {cs : List Addr} {b : Addr} (h : b ∈ cs) : putC H H' cs b = H b := if_pos h
theorem putC_out {H H' : Hp} {cs : List Addr} {b : Addr} (h : b ∉ cs) : putC H H' cs b = H' b := if_neg h
theorem rmC_some {H : Hp} {cs : List Addr} {b : Addr} {o : HO} (h : rmC H cs b = some o) : b ∉ cs ∧ H b = some o := by
  by_cases c : b ∈ cs
  · rw [rmC_in c] at h
    cases h
  · rw [rmC_out c] at h
    exact ⟨c, h⟩
def AllC (H : Hp) (cs : List Addr) : Prop := ∀ c ∈ cs, ∃ v, H c = some (CellO c v)
section
variable {P : Program} {w : World} {H H' : Hp} {h h' B : Heap} {cs fs : List Addr}
theorem AllC.nin (a : AllC H cs) {b : Addr} (n : H b = none) : b ∉ cs := fun z => by
  obtain ⟨v, e⟩ := a b z
  rw [n] at e
  cases e
theorem rm_none (a : AllC H cs) {b : Addr} (n : H b = none) : rmC H cs b = none := by rw [rmC_out (a.nin n)]; exact n
theorem hok_rm (a : AllC H cs) (ok : HOk P w H h) : HOk P w (rmC H cs) h := fun b o e => by
  obtain ⟨nb, eb⟩ := rmC_some e
  refine (ok b o eb).stay (fun _ _ _ q => q) (fun d q => ?_) fun d xs q => ?_
  · rw [rmC_out fun z => by
      obtain ⟨v, ev⟩ := a d z
      exact (cellO_ne (b := b) ev).2.2.2 q]
    exact q
  · rw [rmC_out fun z => by
      obtain ⟨v, ev⟩ := a d z
      exact (cellO_ne (b := b) ev).1 xs q]
    exact q
theorem hok_put (a : AllC H cs) (ok : HOk P w H h) (ok' : HOk P w H' h') (kp : ∀ c ∈ cs, ∀ o, h.get? c = some o → h'.get? c = some o) (nil : ∀ c ∈ cs, H' c = none) : HOk P w (putC H H' cs) h' := fun b o e => by
  by_cases c : b ∈ cs
  · rw [putC_in c] at e
    obtain ⟨v, ev⟩ := a b c
    rw [ev] at e
    cases e
    obtain ⟨hx, ⟨ob, eo⟩, mo⟩ := ok b _ ev
    exact ⟨mo h h' hx (fun o q => kp b c o q), ⟨ob, kp b c ob eo⟩, mo⟩
  · rw [putC_out c] at e
    have nn : ∀ d u, H' d = some u → putC H H' cs d = some u := fun d u q => by
      rw [putC_out fun z => by rw [nil d z] at q; cases q]
      exact q
    exact (ok' b o e).stay (fun _ _ _ q => q) (fun d q => nn d _ q) fun d xs q => nn d _ q
theorem rm_tups (a : AllC H cs) {b : Addr} {xs : List V} (q : H b = some (.tup xs)) : b ∉ cs := fun z => by
  obtain ⟨v, e⟩ := a b z
  exact (cellO_ne (b := b) e).1 xs q
theorem rm_frzs (a : AllC H cs) {b : Addr} {o : Obj} {u : HO} (q : H b = some (.frz o u)) : b ∉ cs := fun z => by
  obtain ⟨v, e⟩ := a b z
  exact (cellO_ne (b := b) e).2.1 o u q
theorem rm_tbls (a : AllC H cs) {b : Addr} {ps : Array Value} (q : H b = some (.tbl ps)) : b ∉ cs := fun z => by
  obtain ⟨v, e⟩ := a b z
  exact (cellO_ne (b := b) e).2.2.1 ps q
theorem un_put (a : AllC H cs) (u : Un fs [] (rmC H cs) H' h h') : Un fs [] H (putC H H' cs) h h' := by
  refine ⟨fun b o q n x y => u.keep b o q (rm_none a n) x y, fun b o q n x y => u.slot b o q (rm_none a n) x y, fun b o q n x => ?_, u.there, fun b xs q => ?_, fun b o v q => ?_, fun b ps q => ?_⟩
  · rw [putC_out (a.nin n)]
    exact u.free b o q (rm_none a n) x
  · have z := rm_tups a q
    rw [putC_out z]
    exact u.tups b xs (by rw [rmC_out z]; exact q)
  · have z := rm_frzs a q
    rw [putC_out z]
    exact u.frzs b o v (by rw [rmC_out z]; exact q)
  · have z := rm_tbls a q
    rw [putC_out z]
    exact u.tbls b ps (by rw [rmC_out z]; exact q)
theorem ub_put (a : AllC H cs) (u : UB fs (rmC H cs) H' h B h') : UB fs H (putC H H' cs) h B h' := by
  refine ⟨fun b o q n x => u.keep b o q (rm_none a n) x, u.slot, fun b o q n => ?_, u.there, fun b xs q => ?_, fun b o v q => ?_, fun b ps q => ?_⟩
  · rw [putC_out (a.nin n)]
    exact u.free b o q (rm_none a n)
  · have z := rm_tups a q
    rw [putC_out z]
    exact u.tups b xs (by rw [rmC_out z]; exact q)
  · have z := rm_frzs a q
    rw [putC_out z]
    exact u.frzs b o v (by rw [rmC_out z]; exact q)
  · have z := rm_tbls a q
    rw [putC_out z]
    exact u.tbls b ps (by rw [rmC_out z]; exact q)
theorem cx_put {outer : List Env} {s s' : Shared} {E : XK} {e : Value} (a : AllC H cs) (ok : HOk P w H s.heap) (nf : ∀ c ∈ cs, c ∉ frs outer) (x : L2.CX P w outer (rmC H cs) s (fun cls d H' => E cls d (putC H H' cs)) e s') : L2.CX P w outer H s E e s' := by
  obtain ⟨p, B, H', cls, d, ea, fl, hok, ub, na, os, ag, he⟩ := x
  have kp : ∀ c ∈ cs, ∀ o, s.heap.get? c = some o → B.get? c = some o := fun c hc o q => ub.keep c o q (rmC_in hc) (nf c hc)
  have ex : ∀ c ∈ cs, ∃ o, s.heap.get? c = some o := fun c hc => by
    obtain ⟨v, ev⟩ := a c hc
    obtain ⟨_, q, _⟩ := ok c _ ev
    exact q
  refine ⟨p, B, putC H H' cs, cls, d, ea, fl, hok_put a ok hok kp fun c hc => ?_, ub_put a ub, ?_, os, ag, he⟩
  · obtain ⟨o, q⟩ := ex c hc
    exact ub.free c o q (rmC_in hc)
  · have np : p ∉ cs := fun z => by
      obtain ⟨o, q⟩ := ex p z
      have h1 := kp p z o q
      rw [fl.2.1] at h1
      cases h1
    rw [putC_out np]
    exact na
theorem ce_put {outer : List Env} {s s' : Shared} {Q : VK} {u : Value} (a : AllC H cs) (ok : HOk P w H s.heap) (nf : ∀ c ∈ cs, c ∉ frs outer) (x : CE outer P w (rmC H cs) s (fun v H' => Q v (putC H H' cs)) u s') : CE outer P w H s Q u s' := by
  obtain ⟨v, H', os, bare, un, hok, r, q⟩ := x
  refine ⟨v, putC H H' cs, os, bare, un_put a un, hok_put a ok hok (fun c hc o q => un.keep c o q (rmC_in hc) (nf c hc) (by simp)) fun c hc => ?_, r, q⟩
  obtain ⟨v', ev⟩ := a c hc
  obtain ⟨_, ⟨o, q'⟩, _⟩ := ok c _ ev
  exact un.free c o q' (rmC_in hc) (by simp)
theorem env0_rm {K : PySem.W.Frag} {mg : Str → Option Value} {base : Heap} {A : Around} {outer : List Env} {s : Shared} (a : AllC H cs) (e0 : Env0 P w K mg base A outer s H) : Env0 P w K mg base A outer s (rmC H cs) :=
  ⟨e0.frames, e0.mod, fun b o e => ⟨(e0.bs b o e).1, rm_none a (e0.bs b o e).2⟩, e0.bsz, e0.funs, fun b hb => rm_none a (e0.frf b hb), hok_rm a e0.hok, e0.bare⟩
end
/-! ### a lambda as a value -/
def tLamV (T : List (Addr × Str)) (q : Str) (cells : List (Str × Addr)) (D : LamD) : TE := fun σ H Q => LamX.Tabs T H ∧ ∀ f c' H1, LamX.ExtN H H1 → LamX.Tabs T H1 → H1 f = none → H1 c' = some (LamX.CodeO c' q) → Q (.ref f) (upd H1 f (LamO f q D cells c'))
theorem pe_lam {X : Cx} {T : List (Addr × Str)} {c P : Addr} {D : LamD} {pos : Pos} (TB : LamX.TabB X.base X.mg c P) (hcode : X.env.code = .ref c) (hm : (P, X.env.qual ++ "<lambda>") ∈ T) (hu : ∀ p ∈ T, p.1 = P → p.2 = X.env.qual ++ "<lambda>") (L : LamX.LamS X.env.scope D.scope)
    (hdef : defaultsOf D.params X.env = ([], [])) : PE X (.Lambda D.params D.body D.scope pos) (tLamV T (X.env.qual ++ "<lambda>") X.env.cells D) := by
  refine ⟨fun pins s σ H Q I h => ?_⟩
  obtain ⟨hT, h⟩ := h
  obtain ⟨ps, hP, ht, ha⟩ := hT _ hm
  have hP' : s.heap.get? P = some { cls := .none, data := .fields ps } := I.hok P _ hP
  have glob := I.mod.glob.keeps I.bk
  have bP := TB.bm.keeps I.bk
  have cP := TB.code.keeps I.bk
  have hcl := L2.closure_ok (L.has I.ok)
  refine PySem.W.kla_eval hdef ?_
  cases hc : codeAmong pos ps.toList with
  | some cv =>
    obtain ⟨c', e, hco⟩ := ha pos cv hc
    subst e
    refine PySem.W.kla_makeFunctionHit (mg := X.mg) hcl I.ok.glob glob hcode cP hP' ht hc bP fun ctv h' tk hx hsz => ?_
    have I1 : Inv X pins σ H { s with heap := h', toks := tk } := I.kept hx
    have nf : H h'.objs.size = none := I1.hok.fresh (Nat.le_refl _)
    exact ⟨.ref h'.objs.size, _, I1.laid (t' := tk) (fun _ _ e => Heap.get?_push_of_some _ e) (Nat.le_refl _) (lam_ok (Heap.get?_push_size _ rfl)), rfl, h _ c' H (LamX.ExtN.refl H) hT nf hco⟩
  | none =>
    refine PySem.W.kla_makeFunction (mg := X.mg) hcl I.ok.glob glob hcode cP hP' ht hc TB.gP bP fun c' ctv h' tk hx hge hlt hrec htb => ?_
    obtain ⟨c2, oc, vs, t, e2, hoc, hd, hv⟩ := hrec
    cases e2
    have nC : H c' = none := I.hok.fresh hge
    have nCP : P ≠ c' := ne_of_none hP nC
    have I1 := LamX.inv_table (t' := tk) (more := #[rawInt pos.line, rawInt pos.col, .ref c']) (q := X.env.qual ++ "<lambda>") I hP hx htb hge ⟨oc, vs, t, hoc, hd, hv⟩
    have hE : LamX.ExtN H (upd (upd H P (.tbl (ps ++ #[rawInt pos.line, rawInt pos.col, .ref c']))) c' (LamX.CodeO c' (X.env.qual ++ "<lambda>"))) := fun b o e n => by
      have n1 : b ≠ P := fun z => n ps (by rw [z, hP] at e; exact (Option.some.inj e).symm)
      rw [upd_ne (ne_of_none e nC), upd_ne n1]
      exact e
    have nf := I1.hok.fresh (Nat.le_refl h'.objs.size)
    have hT1 : LamX.Tabs T (upd (upd H P (.tbl (ps ++ #[rawInt pos.line, rawInt pos.col, .ref c']))) c' (LamX.CodeO c' (X.env.qual ++ "<lambda>"))) := fun p hp => by
      by_cases hb : p.1 = P
      · have eL : (ps ++ #[rawInt pos.line, rawInt pos.col, .ref c']).toList = ps.toList ++ [rawInt pos.line, rawInt pos.col, .ref c'] := by simp
        rw [hu p hp hb, hb]
        refine ⟨_, (by rw [upd_ne nCP, upd_same]), (by rw [eL]; exact PySem.TriplesOk_snoc _ _ _ _ ht), fun p' cv hcv => ?_⟩
        rw [eL] at hcv
        rcases LamX.among_app _ ht hcv with z | z
        · obtain ⟨c0, e1, e2⟩ := ha p' cv z
          exact ⟨c0, e1, hE _ _ e2 LamX.codeO_ne⟩
        · exact ⟨c', z, upd_same⟩
      · obtain ⟨ps', a1, a2, a3⟩ := hT p hp
        refine ⟨ps', (by rw [upd_ne (ne_of_none a1 nC), upd_ne hb]; exact a1), a2, fun p' cv hcv => ?_⟩
        obtain ⟨c0, e1, e2⟩ := a3 p' cv hcv
        exact ⟨c0, e1, hE _ _ e2 LamX.codeO_ne⟩
    exact ⟨.ref h'.objs.size, _, I1.laid (t' := tk) (fun _ _ e => Heap.get?_push_of_some _ e) (Nat.le_refl _) (lam_ok (Heap.get?_push_size _ rfl)), rfl, h _ c' _ hE hT1 nf upd_same⟩
end Cl
namespace Cl
open PySem PySem.Spec PyProof.Rows L2
abbrev capt (sc : Scope) (y : Str) : Prop := sc.names.lookup y = some .cell ∨ sc.names.lookup y = some .free
/-- what a returned frame's captured names hold -/
structure Reg (sc : Scope) (N : List Str) (cells : List (Str × Addr)) (cs : List Addr) (σ : L2.St) (H : Hp) : Prop where
  len : σ.length = N.length
  has : ∀ y, capt sc y → ∃ c, cells.lookup y = some c ∧ c ∈ cs
  at_ : ∀ (i : Nat) (y : Str) (v : V) (c : Addr), N[i]? = some y → σ[i]? = some (some v) → capt sc y → cells.lookup y = some c → H c = some (CellO c v)
  all : AllC H cs
  inj : ∀ y z c, cells.lookup y = some c → cells.lookup z = some c → y = z
abbrev lenv (q : Str) (scope : Scope) (cells : List (Str × Addr)) (L f c' : Addr) : Env := PySem.W.envX q scope L f (.ref c') (cloFrom cells scope.names [])
/-- a lambda's context, whoever made it -/
def lcx (P : Program) (w : World) (K : PySem.W.Frag) (mg : Str → Option Value) (base : Heap) (N : List Str) (q : Str) (scope : Scope) (cells : List (Str × Addr)) (A : Around) (outer : List Env) (s : Shared) (H : Hp) (E : XK) (f c' : Addr) : Cx :=
  let ev := lenv q scope cells s.heap.objs.size f c'
  { prog := P, w := w, K := K, mg := mg, base := base, A := A.deeper ev, N := N, s_0 := s, H_0 := H, env := ev, outer := outer, stack := ev :: outer, ex := [], fn := fun _ => false, calm := true, pn := [],
    xe := fun e s' => wpAny (model P w) (A.deeper ev) (leaving ev e) (fun _ t => L2.CX P w outer H s E e t) (fun e' t => L2.CX P w outer H s E e' t) s' }
section
variable {P : Program} {w : World} {K : PySem.W.Frag} {mg : Str → Option Value} {base : Heap} {N : List Str} {q : Str} {sc scope : Scope} {cells : List (Str × Addr)} {cs : List Addr} {A : Around} {outer : List Env} {s : Shared} {H : Hp} {E : XK} {f c' : Addr} {σ : L2.St}
theorem clo_in {y : Str} {c : Addr} (e : (cloFrom cells scope.names []).lookup y = some c) : (y, NameKind.free) ∈ scope.names ∧ c = (cells.lookup y).getD 0 := by
  rcases cloFrom_mem (PySem.mem_of_lookup e) with z | z
  · cases z
  · exact z
theorem Reg.clo (R : Reg sc N cells cs σ H) (L : LamX.LamS sc scope) {y : Str} {c : Addr} (e : (cloFrom cells scope.names []).lookup y = some c) : capt sc y ∧ cells.lookup y = some c ∧ c ∈ cs := by
  obtain ⟨h1, h2⟩ := clo_in e
  have cp := L.free _ h1 rfl
  obtain ⟨c1, e1, m1⟩ := R.has y cp
  rw [e1] at h2
  have h2 : c = c1 := h2
  subst h2
  exact ⟨cp, e1, m1⟩
theorem lcx_start {h₁ : Heap} {tk : Nat} (L : LamX.LamS sc scope) (R : Reg sc N cells cs σ H) (ok : HOk P w H s.heap) (e0 : Env0 P w K mg base A outer s (rmC H cs)) (hd : A.handled = none) (hns : h₁.Ns s.heap.objs.size fun y => ([] : List (Str × Value)).reverse.lookup y)
    (kp : ∀ b o, s.heap.get? b = some o → h₁.get? b = some o) : L2.Inv (lcx P w K mg base N q scope cells A outer s (rmC H cs) E f c') [] σ (rmC H cs) { s with heap := h₁, toks := tk } := by
  have noA : ∀ b : Addr, b ∉ (lcx P w K mg base N q scope cells A outer s (rmC H cs) E f c').ex := fun b z => by cases (show b ∈ ([] : List Addr) from z)
  have look : ∀ {y}, scope.names.lookup y = some .free → ∃ c, (cloFrom cells scope.names []).lookup y = some c := fun {y} hl => mem_lookup (cloFrom_has (cells := cells) (acc := []) (PySem.mem_of_lookup hl))
  have isc : ∀ {c : Addr} {v : V}, H c = some (CellO c v) → ∃ u, RelV v u ∧ h₁.IsCell c (some u) := fun {c v} e => by
    obtain ⟨⟨u, ⟨o, ho, hc⟩, r⟩, _, _⟩ := ok c _ e
    exact ⟨u, r, o, kp _ _ ho, hc⟩
  have okx : (lcx P w K mg base N q scope cells A outer s (rmC H cs) E f c').Ok :=
    { mod := e0.mod
      kind := L.kind
      glob := rfl
      blt := rfl
      above := Nat.le_refl _
      inj := fun y z c e1 e2 => R.inj y z c (R.clo L e1).2.1 (R.clo L e2).2.1
      has := fun y hy => (show scope.names.lookup y = some .cell ∨ scope.names.lookup y = some .free from hy).elim (fun z => absurd rfl (L.own _ (PySem.mem_of_lookup z)).2) fun z => look z
      cab := fun y c z _ => by cases (show false = true from z)
      hd := fun _ => hd
      frames := Around.frames_deeper e0.frames
      stk := .inr ⟨rfl, rfl⟩
      exf := fun b z => absurd z (noA b)
      bs := e0.bs
      bsz := e0.bsz
      noex := fun b _ _ => noA b
      exfs := fun b z => absurd z (noA b)
      funs := e0.funs
      frf := e0.frf }
  refine { ok := okx, os := rfl, bare := e0.bare, base := Un.kept kp, loc := ⟨_, hns, fun i y v e1 e2 e3 => ?_⟩, cell := fun y c e => ?_, free := e0.hok.fresh (Nat.le_refl _), freeC := fun y c e => rmC_in (R.clo L e).2.2, pin := fun p hp => ?_, hok := e0.hok.kept kp, len := R.len }
  · rcases (show Vis scope y from e3) with z | z | z
    · exact absurd rfl (L.own _ (PySem.mem_of_lookup z)).1
    · exact absurd rfl (L.own _ (PySem.mem_of_lookup z)).2
    · obtain ⟨c, ec⟩ := look z
      obtain ⟨h1, h2, h3⟩ := R.clo L ec
      obtain ⟨u, r, ic⟩ := isc (R.at_ i y v c e1 e2 h1 h2)
      exact ⟨u, r, .inr ⟨.inr z, c, ec, ic⟩⟩
  · obtain ⟨_, _, h3⟩ := R.clo L e
    obtain ⟨v, ev⟩ := R.all c h3
    obtain ⟨u, _, ic⟩ := isc ev
    exact ⟨_, ic⟩
  · cases (show p ∈ ([] : List (Addr × Obj)) ++ [] from hp)
/-- what is wanted behind a closure's body, with the cells back -/
def tBack (t : XK → TE) (sc : Scope) (N : List Str) (cells : List (Str × Addr)) (cs : List Addr) (σ : L2.St) : XK → Hp → VK → Prop := fun E H Q =>
  Reg sc N cells cs σ H ∧ t (fun cls d H' => E cls d (putC H H' cs)) σ (rmC H cs) (fun v H' => Q v (putC H H' cs))
/-- x(), where x holds a closure -/
theorem pe_actF {CXg : CXT} {Eg : XK} {Ng : List Str} {qg : Str} {sg : Scope} {g : Addr} {cdg : Value} {D : LamD} {k i : Nat} {a : Str} {pn : List (Addr × Obj)} {xe : Value → Shared → Prop} {W : WX} {t : XK → TE} {p1 p2 : Pos} (L : LamX.LamS sc D.scope)
    (hbind : ∀ (cl : List (Str × Addr)) (pm cv ctv : Value), bindArgs (PySem.W.kla_fn "<lambda>" q D.params D.body D.scope cl pm cv ctv) ⟨[], []⟩ = pure [])
    (tk : Takes ((cxOf CXg P w K mg base Ng qg sg g cdg A outer s H Eg).tr pn xe) W) (hW : ∀ cls d σ' H', E cls d H' → W cls d σ' H') (hr : Room (k + 1) (A.deeper (envOfC qg sg s.heap.objs.size g cdg)))
    (hbody : ∀ (A : Around) (outer : List Env) (s : Shared) (H : Hp) (E : XK), Room k (A.deeper (lenv q D.scope cells s.heap.objs.size f c')) → PE (lcx P w K mg base N q D.scope cells A outer s H E f c') D.body (t E))
    (hN : Ng[i]? = some a) (hv : Vis sg a) (hd : (a == ("__debug__" : Str)) = false := by decide) (hcd : (a == ("__classdict__" : Str)) = false := by decide) :
    PE ((cxOf CXg P w K mg base Ng qg sg g cdg A outer s H Eg).tr pn xe) (.Call (.Name a p1) [] [] p2)
      (fun σZ HZ Q => σZ[i]? = some (some (.ref f)) ∧ HZ c' = some (LamX.CodeO c' q) ∧ HZ f = some (LamO f q D cells c') ∧ tBack t sc N cells cs σ E HZ Q) := by
  refine ⟨fun pinsZ sZ σZ HZ Q IZ h => ?_⟩
  obtain ⟨hs, hc, hf, R, ht⟩ := h
  have hvar := (pe_var (X := (cxOf CXg P w K mg base Ng qg sg g cdg A outer s H Eg).tr pn xe) (pos := p1) (i := i) hN hv hd hcd).run pinsZ sZ σZ HZ (fun v H1 => v = .ref f ∧ H1 = HZ) IZ ⟨.ref f, hs, rfl, rfl⟩
  refine wpAny_Call_Name_kw (thn hvar fun u s1 hq1 => ?_)
  obtain ⟨v, H1, I1, r1, ev, eH⟩ := hq1
  subst ev eH
  cases r1
  obtain ⟨⟨pm, ctv, of1⟩, _, _⟩ := I1.hok f _ hf
  obtain ⟨⟨oc, vs, tq, hoc, hdc, hvc⟩, _, _⟩ := I1.hok c' _ hc
  have e0 := I1.env0
  have nf : ∀ c ∈ cs, c ∉ frs (envOfC qg sg s.heap.objs.size g cdg :: outer) := fun c hc z => by
    obtain ⟨v, ev⟩ := R.all c hc
    have := e0.frf c z
    rw [ev] at this
    cases this
  refine PySem.W.callWith_F0 ⟨_, _, _, _, of1⟩ ?_
  have rc : codeAny (model P w) (A.deeper (envOfC qg sg s.heap.objs.size g cdg)) (.call (.ref f) ⟨[], []⟩) (CR (L2.CX P w) (envOfC qg sg s.heap.objs.size g cdg :: outer) P w H1 s1 Q E) s1 := by
    refine PySem.W.kla_callFunE hr.depth of1 rfl L.co L.gen rfl ⟨c', oc, vs, tq, rfl, hoc, hdc, hvc⟩ ?_
    rw [hbind]
    have own1 : ∀ y ∈ D.scope.names, y.2 ≠ .cell := fun y hy => (L.own y hy).2
    refine wpAny_pure (wpAny_newFunctionEnv own1 (fun y hy => by cases hy) (fun h₁ hns hsb => ⟨I1.nolimit.fresh _ hsb, ?_⟩) L.kind)
    have kp : ∀ b o, s1.heap.get? b = some o → h₁.get? b = some o := fun b o e => hsb.extBut b o (Nat.ne_of_lt (Heap.lt_size e)) (Heap.get?_push_of_some _ e)
    have J := lcx_start (q := q) (E := fun cls d H' => E cls d (putC H1 H' cs)) (f := f) (c' := c') (tk := s1.toks + ([] : List (Str × Value)).length) L R I1.hok (env0_rm R.all e0) hr.hd hns kp
    refine PySem.W.kla_codeExpr (wpAny_mono ((hbody _ _ s1 _ _ (hr.deeper _)).run [] _ _ _ _ J ht) (fun v s' hq => ?_) fun e s' hq => ?_)
    · obtain ⟨w', H', J', rv, q'⟩ := hq
      exact ce_put R.all I1.hok nf ⟨w', H', J'.os, J'.bare, J'.base, J'.hok, rv, q'⟩
    · exact wpAny_mono hq (fun _ t x => cx_put R.all I1.hok nf x) fun _ t x => cx_put R.all I1.hok nf x
  have hx : Passes (L2.CX P w) ((cxOf CXg P w K mg base Ng qg sg g cdg A outer s H Eg).tr pn xe) E := passes_call tk hW
  refine wpAny_call (codeAny_mono rc fun r s' hq => ?_)
  match r, hq with
  | .error e, hq => exact hx pinsZ σZ H1 s1 e s' I1 hq
  | .ok (.ret u), hq => exact I1.after hq
  | .ok .next, hq => exact False.elim hq
  | .ok .brk, hq => exact False.elim hq
  | .ok .cont, hq => exact False.elim hq
end
/-- x(y), x a def that calls what it gets, y a local name that holds one of the closures Ds -/
theorem pe_callF {X : Cx} {TT : (XK → Hp → VK → Prop) → Hp → VK → Prop} {x a y q : Str} {g : Addr} {k j n : Nat} {pg : Arguments} {bg : List Stmt} {sg sc : Scope} {dV kV doc pm cdv ct oc : Value} {an od : Option Addr} {osl : Array (Option Value)} {Ng NF : List Str} {Ds : Nat → LamD} {tt : Nat → XK → TE}
    {p py pos : Pos} (hg : Gl X x) (hm : X.mg x = some (.ref g)) (hk : PySem.W.keepIn X.K (.ref g) = true) (lk : X.K.lookup g = some ⟨oc, od, .func (PySem.W.fnOf x x pg bg sg dV kV doc pm an cdv ct), osl⟩) (hcg : PySem.W.codeIn X.K cdv x = true)
    (hb : L2.Binds X.K (PySem.W.fnOf x x pg bg sg dV kV doc pm an cdv ct) [a] []) (Sg : FnScope Ng [a] sg) (hNg : Ng[0]? = some a) (hva : Vis sg a) (hG : LamX.GivesTo X Ng x sg g cdv bg a q TT) (hr : Room (k + 2) X.A) (hy : PE X (.Name y py) (tVar j))
    (hD : ∀ i, i < n → LamX.LamS sc (Ds i).scope ∧ (∀ (cl : List (Str × Addr)) (pm cv ctv : Value), bindArgs (PySem.W.kla_fn "<lambda>" q (Ds i).params (Ds i).body (Ds i).scope cl pm cv ctv) ⟨[], []⟩ = pure []) ∧
      ∀ (cells : List (Str × Addr)) (A : Around) (outer : List Env) (s : Shared) (H : Hp) (E : XK) (f c' : Addr), Room k (A.deeper (lenv q (Ds i).scope cells s.heap.objs.size f c')) → PE (lcx X.prog X.w X.K X.mg X.base NF q (Ds i).scope cells A outer s H E f c') (Ds i).body (tt i E))
    (hdb : (x == ("__debug__" : Str)) = false := by decide) (hd : (a == ("__debug__" : Str)) = false := by decide) (hcd : (a == ("__classdict__" : Str)) = false := by decide) :
    PE X (.Call (.Name x p) [.Name y py] [] pos) (fun σ H Q => ∃ (f c' : Addr) (i : Nat) (cells : List (Str × Addr)) (cs : List Addr) (σF : L2.St), i < n ∧ σ[j]? = some (some (.ref f)) ∧ H c' = some (LamX.CodeO c' q) ∧
      TT (fun E H' Q' => H' f = some (LamO f q (Ds i) cells c') ∧ tBack (tt i) sc NF cells cs σF E H' Q') H Q) := by
  refine ⟨fun pins s σ H Q I h => ?_⟩
  obtain ⟨f, c', i, cells, cs, σF, hi, hs, hco, h⟩ := h
  obtain ⟨L, hbind, hbody⟩ := hD i hi
  refine wpAny_Call_Name_kw (ld_glob I hg hm ?_ hdb)
  have args := (pa_cons hy pa_nil).run pos pins s σ H (fun vs H1 => vs = [V.ref f] ∧ H1 = H) I ⟨_, hs, rfl, rfl⟩
  refine PySem.W.callWith_K (h₀ := X.base) I.ok.mod.kin hk (thn args fun us s1 hq1 => ?_) (by rfl) (by rfl)
  obtain ⟨vs, H1, I1, r, ev, eH⟩ := hq1
  subst ev eH
  refine ⟨I1.kIn, ?_⟩
  obtain ⟨u, rfl, ru⟩ := vals1 r
  cases ru
  have rc : codeAny (model X.prog X.w) X.A (.call (.ref g) ⟨[.ref f], []⟩) (CR C8.CX0 X.stack X.prog X.w H1 s1 Q C8.E0) s1 := by
    refine LamX.run_ofS (N := Ng) (ps := [a]) (us := [.ref f]) (vs := [.ref f]) lk hcg Sg hr I1.env0 (hb s1 [.ref f] I1.kIn rfl) (.cons rfl .nil) rfl fun hr' => ?_
    obtain ⟨t', ht', hq'⟩ := hG f c' s1 H1 Q _ (fun W pn xe E p1 p2 tk hW => pe_actF (i := 0) (cs := cs) (σ := σF) (N := NF) (cells := cells) (c' := c') (f := f) (D := Ds i) (sc := sc) (t := tt i) L hbind tk hW hr' (fun A outer s H E hr2 => hbody cells A outer s H E f c' hr2) hNg hva hd hcd) hco h
    exact ⟨t', ht'.nox, hq'⟩
  refine wpAny_call (codeAny_mono rc fun r s2 hq => ?_)
  match r, hq with
  | .error e, hq => exact (show False from hq).elim
  | .ok (.ret u), hq => exact I1.after hq
  | .ok .next, hq => exact False.elim hq
  | .ok .brk, hq => exact False.elim hq
  | .ok .cont, hq => exact False.elim hq
end Cl
namespace Cl
open PySem PySem.Spec PyProof.Rows L2
/-! ### a def whose frame's cells are told of behind it -/
/-- a block that ends with return, its slots known there -/
structure PSe (X : Cx) (st : List Stmt) (u : (L2.St → Hp → V → Prop) → L2.St → Hp → Prop) : Prop where
  run : ∀ (pins : List (Addr × Obj)) (s : Shared) (σ : L2.St) (H : Hp) (R : L2.St → Hp → V → Prop), L2.Inv X pins σ H s → u R σ H → wpAny (model X.prog X.w) X.A (execs st X.env) (fun f s' => ∃ u v σ' H', f = .ret u ∧ L2.Inv X pins σ' H' s' ∧ RelV v u ∧ R σ' H' v) X.xe s
theorem pse_cons {X : Cx} {st : Stmt} {rest : List Stmt} {t : TS} {u : (L2.St → Hp → V → Prop) → L2.St → Hp → Prop} (h1 : PS X st t) (h2 : PSe X rest u) : PSe X (st :: rest) (fun R σ H => t { nx := u R, rt := fun _ _ => False } σ H) := by
  refine ⟨fun pins s σ H R I h => ?_⟩
  refine wpAny_execs_cons (thn (h1.run pins s σ H _ I h) fun f s1 hq => ?_)
  match f, hq with
  | .next, ⟨σ', H', I', q⟩ => exact h2.run pins s1 σ' H' R I' q
  | .ret v, ⟨_, _, _, _, _, q⟩ => exact False.elim q
  | .brk, ⟨_, _, _, q⟩ => exact False.elim q
  | .cont, ⟨_, _, _, q⟩ => exact False.elim q
theorem pse_ret {X : Cx} {e : Expr} {pos : Pos} {te : TE} (he : PE X e te) : PSe X [.Return (some e) pos] (fun R σ H => te σ H fun v H1 => R σ H1 v) := by
  refine ⟨fun pins s σ H R I h => ?_⟩
  refine wpAny_execs_cons (wpAny_Return_some (thn (he.run pins s σ H _ I h) fun u s1 hq => ?_))
  obtain ⟨v, H1, I1, r, q⟩ := hq
  exact ⟨u, v, σ, H1, rfl, I1, r, q⟩
/-- the captured names' cells told -/
structure Told (sc : Scope) (N : List Str) (cells : List (Str × Addr)) (σ : L2.St) (H H' : Hp) : Prop where
  same : ∀ b o, H b = some o → H' b = some o
  at_ : ∀ (i : Nat) (y : Str) (v : V) (c : Addr), N[i]? = some y → σ[i]? = some (some v) → capt sc y → cells.lookup y = some c → H c = none ∧ H' c = some (CellO c v)
  has : ∀ y, capt sc y → ∃ c, cells.lookup y = some c
  inj : ∀ y z c, cells.lookup y = some c → cells.lookup z = some c → y = z
/-- as captured names are so told they are a closure's -/
theorem Told.reg {sc : Scope} {N : List Str} {cells : List (Str × Addr)} {σ : L2.St} {H H' : Hp} (T : Told sc N cells σ H H') (hl : σ.length = N.length) (hv : ∀ y, capt sc y → ∃ (i : Nat) (v : V), N[i]? = some y ∧ σ[i]? = some (some v)) (ns : List Str) (hns : ∀ y, capt sc y ↔ y ∈ ns) :
    Reg sc N cells (ns.filterMap fun y => cells.lookup y) σ H' := by
  refine ⟨hl, fun y hy => ?_, fun i y v c e1 e2 hy e3 => (T.at_ i y v c e1 e2 hy e3).2, fun c hc => ?_, T.inj⟩
  · obtain ⟨c, e⟩ := T.has y hy
    exact ⟨c, e, List.mem_filterMap.mpr ⟨y, (hns y).mp hy, e⟩⟩
  · obtain ⟨y, hy, e⟩ := List.mem_filterMap.mp hc
    have cy := (hns y).mpr hy
    obtain ⟨i, v, e1, e2⟩ := hv y cy
    exact ⟨v, (T.at_ i y v c e1 e2 cy e).2⟩
open Classical in
noncomputable def tellC (sc : Scope) (N : List Str) (cells : List (Str × Addr)) (σ : L2.St) (H : Hp) : Hp := fun b =>
  if h : ∃ (i : Nat) (y : Str) (v : V), N[i]? = some y ∧ σ[i]? = some (some v) ∧ capt sc y ∧ cells.lookup y = some b then some (CellO b (choose (choose_spec (choose_spec h)))) else H b
theorem told_same {X : Cx} {pins : List (Addr × Obj)} {σ : L2.St} {H : Hp} {s : Shared} (I : L2.Inv X pins σ H s) : ∀ b o, H b = some o → tellC X.env.scope X.N X.env.cells σ H b = some o := fun b o e => by
  unfold tellC
  rw [dif_neg]
  · exact e
  · rintro ⟨i, y, v, _, _, _, e'⟩
    rw [I.freeC y b e'] at e
    cases e
theorem told_at {X : Cx} {pins : List (Addr × Obj)} {σ : L2.St} {H : Hp} {s : Shared} (I : L2.Inv X pins σ H s) (nd : X.N.Nodup) : Told X.env.scope X.N X.env.cells σ H (tellC X.env.scope X.N X.env.cells σ H) := by
  refine ⟨fun b o e => ?_, fun i y v c e1 e2 hy e3 => ⟨I.freeC y c e3, ?_⟩, fun y hy => I.ok.has y hy, I.ok.inj⟩
  · unfold tellC
    rw [dif_neg]
    · exact e
    · rintro ⟨i, y, v, _, _, _, e'⟩
      rw [I.freeC y b e'] at e
      cases e
  · unfold tellC
    have h : ∃ (i : Nat) (y : Str) (v : V), X.N[i]? = some y ∧ σ[i]? = some (some v) ∧ capt X.env.scope y ∧ X.env.cells.lookup y = some c := ⟨i, y, v, e1, e2, hy, e3⟩
    rw [dif_pos h]
    have key : ∀ (i' : Nat) (y' : Str) (v' : V), X.N[i']? = some y' → σ[i']? = some (some v') → X.env.cells.lookup y' = some c → v' = v := fun i' y' v' a1 a2 a3 => by
      have ey := I.ok.inj _ _ _ a3 e3
      subst ey
      have ei := nodup_ix nd a1 e1
      subst ei
      rw [e2] at a2
      exact (Option.some.inj (Option.some.inj a2)).symm
    obtain ⟨q1, q2, _, q4⟩ := Classical.choose_spec (Classical.choose_spec (Classical.choose_spec h))
    rw [key _ _ _ q1 q2 q4]
theorem tell_ok {X : Cx} {pins : List (Addr × Obj)} {σ : L2.St} {H : Hp} {s : Shared} (I : L2.Inv X pins σ H s) : HOk X.prog X.w (tellC X.env.scope X.N X.env.cells σ H) s.heap := fun b o e => by
  have nn : ∀ d u, H d = some u → tellC X.env.scope X.N X.env.cells σ H d = some u := fun d u q => by
    unfold tellC
    rw [dif_neg]
    · exact q
    · rintro ⟨i, y, v, _, _, _, e'⟩
      rw [I.freeC y d e'] at q
      cases q
  by_cases h : ∃ (i : Nat) (y : Str) (v : V), X.N[i]? = some y ∧ σ[i]? = some (some v) ∧ capt X.env.scope y ∧ X.env.cells.lookup y = some b
  · have e' := e
    unfold tellC at e'
    rw [dif_pos h] at e'
    cases e'
    obtain ⟨q1, q2, q3, q4⟩ := Classical.choose_spec (Classical.choose_spec (Classical.choose_spec h))
    obtain ⟨m, hn, hl⟩ := I.loc
    obtain ⟨u, r, l⟩ := hl _ _ _ q1 q2 (q3.elim (fun z => .inr (.inl z)) fun z => .inr (.inr z))
    rcases l with ⟨k, _⟩ | ⟨_, c, ec, ic⟩
    · rcases q3 with z | z <;> rw [show X.env.scope.names.lookup _ = _ from k] at z <;> cases z
    · rw [q4] at ec
      cases ec
      exact cell_ok ic r
  · have e' := e
    unfold tellC at e'
    rw [dif_neg h] at e'
    exact (I.hok b o e').stay (fun _ _ _ q => q) (fun d q => nn d _ q) fun d xs q => nn d _ q
theorem tell_un {fs : List Addr} {X : Cx} {pins : List (Addr × Obj)} {σ : L2.St} {H H0 : Hp} {s : Shared} {h0 : Heap} (I : L2.Inv X pins σ H s) (u : Un fs [] H0 H h0 s.heap) (hc : ∀ y c, X.env.cells.lookup y = some c → h0.objs.size ≤ c) : Un fs [] H0 (tellC X.env.scope X.N X.env.cells σ H) h0 s.heap := by
  have nn := told_same I
  refine ⟨u.keep, u.slot, fun b o q n x => ?_, u.there, fun b xs q => nn _ _ (u.tups b xs q), fun b o v q => nn _ _ (u.frzs b o v q), fun b ps q => ?_⟩
  · unfold tellC
    rw [dif_neg]
    · exact u.free b o q n x
    · rintro ⟨i, y, v, _, _, _, e'⟩
      exact Nat.lt_irrefl _ (Nat.lt_of_lt_of_le (Heap.lt_size q) (hc y b e'))
  · obtain ⟨more, e⟩ := u.tbls b ps q
    exact ⟨more, nn _ _ e⟩
/-- the def's promise -/
theorem fn_cells {CX : CXT} {P : Program} {w : World} {K : PySem.W.Frag} {mg : Str → Option Value} {base : Heap} {k : Nat} {f : Addr} {name qual : Str} {params : Arguments} {body : List Stmt} {scope : Scope} {dV kV doc pm cdv ct oc : Value} {an od : Option Addr} {osl : Array (Option Value)} {N ps : List Str} {sp : Sp}
    (lk : K.lookup f = some ⟨oc, od, .func (PySem.W.fnOf name qual params body scope dV kV doc pm an cdv ct), osl⟩) (hcd : PySem.W.codeIn K cdv qual = true) (S : FnScope N ps scope) (len : ∀ vs H Q E, sp vs H Q E → vs.length = ps.length)
    (hbody : ∀ (A : Around) (outer : List Env) (s : Shared) (H : Hp) (vs : List V) (Q : VK) (E : XK), Room k (A.deeper (envOfC qual scope s.heap.objs.size f cdv)) → sp vs H Q E →
      ∃ u, PSe (cxOf CX P w K mg base N qual scope f cdv A outer s H E) body u ∧ u (fun σ' H' v => ∀ H'', Told scope N (envOfC qual scope s.heap.objs.size f cdv).cells σ' H' H'' → Q v H'') (L2.start N vs) H) :
    FnOk P w K mg base CX (k + 1) f (PySem.W.fnOf name qual params body scope dV kV doc pm an cdv ct) ps sp := by
  refine ⟨len, fun A outer s H args us vs Q E hr e0 hb r hsp => ?_⟩
  have KX : K.In s.heap := e0.mod.kin.keeps fun b o e => (e0.bs b o e).1
  have lim := e0.mod.nolimit.keeps fun b o e => (e0.bs b o e).1
  refine codeAny_call_function hr.depth (KX _ _ lk) rfl S.co S.gen rfl (PySem.W.codeRec_of KX hcd) (hb _ _ _ _ ?_)
  have hkind : ∀ y ∈ ps.zip us, scope.names.lookup y.1 = some .local ∨ (scope.names.lookup y.1 = some .cell ∧ ((cellsFrom (s.heap.objs.size + 1) scope.names []).lookup y.1).isSome = true) := by
    rintro ⟨n, v⟩ hy
    exact (S.par n (List.of_mem_zip hy).1).imp id fun q => ⟨q, PySem.W.cellsFrom_some _ _ _ (.inl q)⟩
  refine wpAny_newFunctionEnv_cells S.kind hkind fun env he s1 x => ?_
  subst he
  refine ⟨lim.keeps x.toInCall.keep, codeAny_func ?_⟩
  obtain ⟨u, hu, hq⟩ := hbody A outer s H vs Q E (hr.deeper _) hsp
  have I := inv_start (CX := CX) (E := E) (P := P) (w := w) S hr.hd e0 (len _ _ _ _ hsp) r x
  refine wpAny_mono (hu.run [] s1 (L2.start N vs) H _ I hq) (fun fl s' hs => ?_) fun e s' hs => hs
  obtain ⟨u', v, σ', H', ef, J, rv, q⟩ := hs
  subst ef
  exact ⟨v, _, J.os, J.bare, tell_un J J.base fun y c e => J.ok.cab y c rfl e, tell_ok J, rv, q _ (told_at J S.nd)⟩
end Cl
namespace Nu
open PySem PySem.Spec PyProof.Rows L2
def top (i : Nat) : Stmt := PySem.Challenge.pw_numbergaps_k01_offices_and_desks.main.body.getD i (.Pass ⟨0, 0, 0, 0⟩)
abbrev s_Office_init : Stmt := inClass (top 27) 0
theorem sc_Office_init : FnScope ["self", "top", "desks", "number", "desk"] ["self", "top", "desks"] (defScope s_Office_init) := ⟨rfl, rfl, rfl, by decide +kernel, rfl, by decide +kernel, by decide +kernel⟩
abbrev s_Office_lend : Stmt := inClass (top 27) 1
theorem sc_Office_lend : FnScope ["self", "desk", "many", "first", "last", "number"] ["self", "desk", "many"] (defScope s_Office_lend) := ⟨rfl, rfl, rfl, by decide +kernel, rfl, by decide +kernel, by decide +kernel⟩
abbrev s_Office_report : Stmt := inClass (top 27) 2
theorem sc_Office_report : FnScope ["self", "desk", "words", "word", "numbers", "number"] ["self", "desk", "words"] (defScope s_Office_report) := ⟨rfl, rfl, rfl, by decide +kernel, rfl, by decide +kernel, by decide +kernel⟩
abbrev s_Office_back : Stmt := inClass (top 27) 3
theorem sc_Office_back : FnScope ["self", "desk", "numbers", "number"] ["self", "desk"] (defScope s_Office_back) := ⟨rfl, rfl, rfl, by decide +kernel, rfl, by decide +kernel, by decide +kernel⟩
abbrev s_Office_stop : Stmt := inClass (top 27) 4
theorem sc_Office_stop : FnScope ["self", "desk", "number"] ["self", "desk"] (defScope s_Office_stop) := ⟨rfl, rfl, rfl, by decide +kernel, rfl, by decide +kernel, by decide +kernel⟩
abbrev s_Office_found : Stmt := inClass (top 27) 5
theorem sc_Office_found : FnScope ["self", "number", "desk", "rest"] ["self", "number"] (defScope s_Office_found) := ⟨rfl, rfl, rfl, by decide +kernel, rfl, by decide +kernel, by decide +kernel⟩
abbrev s_Office_settle : Stmt := inClass (top 27) 6
theorem sc_Office_settle : FnScope ["self", "desk", "many", "rest", "unused", "number"] ["self", "desk", "many"] (defScope s_Office_settle) := ⟨rfl, rfl, rfl, by decide +kernel, rfl, by decide +kernel, by decide +kernel⟩
abbrev s_Office_open_numbers : Stmt := inClass (top 27) 7
theorem sc_Office_open_numbers : FnScope ["self", "desk"] ["self", "desk"] (defScope s_Office_open_numbers) := ⟨rfl, rfl, rfl, by decide +kernel, rfl, by decide +kernel, by decide +kernel⟩
abbrev s_Office_rest : Stmt := inClass (top 27) 8
theorem sc_Office_rest : FnScope ["self", "desk"] ["self", "desk"] (defScope s_Office_rest) := ⟨rfl, rfl, rfl, by decide +kernel, rfl, by decide +kernel, by decide +kernel⟩
abbrev s_Office_has_rest : Stmt := inClass (top 27) 9
theorem sc_Office_has_rest : FnScope ["self", "desk"] ["self", "desk"] (defScope s_Office_has_rest) := ⟨rfl, rfl, rfl, by decide +kernel, rfl, by decide +kernel, by decide +kernel⟩
abbrev s_Office_least_used : Stmt := inClass (top 27) 11
theorem sc_Office_least_used : FnScope ["self", "desk", "number"] ["self", "desk"] (defScope s_Office_least_used) := ⟨rfl, rfl, rfl, by decide +kernel, rfl, by decide +kernel, by decide +kernel⟩
abbrev s_Office_numbers : Stmt := inClass (top 27) 12
theorem sc_Office_numbers : FnScope ["self"] ["self"] (defScope s_Office_numbers) := ⟨rfl, rfl, rfl, by decide +kernel, rfl, by decide +kernel, by decide +kernel⟩
abbrev s_Office_state : Stmt := inClass (top 27) 13
theorem sc_Office_state : FnScope ["self", "number"] ["self", "number"] (defScope s_Office_state) := ⟨rfl, rfl, rfl, by decide +kernel, rfl, by decide +kernel, by decide +kernel⟩
abbrev s_Office_holder : Stmt := inClass (top 27) 14
theorem sc_Office_holder : FnScope ["self", "number"] ["self", "number"] (defScope s_Office_holder) := ⟨rfl, rfl, rfl, by decide +kernel, rfl, by decide +kernel, by decide +kernel⟩
abbrev s_Office__check_desk : Stmt := inClass (top 27) 15
theorem sc_Office__check_desk : FnScope ["self", "desk"] ["self", "desk"] (defScope s_Office__check_desk) := ⟨rfl, rfl, rfl, by decide +kernel, rfl, by decide +kernel, by decide +kernel⟩
abbrev s_Office__check_going : Stmt := inClass (top 27) 16
theorem sc_Office__check_going : FnScope ["self", "desk"] ["self", "desk"] (defScope s_Office__check_going) := ⟨rfl, rfl, rfl, by decide +kernel, rfl, by decide +kernel, by decide +kernel⟩
abbrev s_Office__first_of_free : Stmt := inClass (top 27) 17
theorem sc_Office__first_of_free : FnScope ["self", "many", "run", "number"] ["self", "many"] (defScope s_Office__first_of_free) := ⟨rfl, rfl, rfl, by decide +kernel, rfl, by decide +kernel, by decide +kernel⟩
abbrev s_Office__let_go : Stmt := inClass (top 27) 18
theorem sc_Office__let_go : FnScope ["self", "number", "state"] ["self", "number", "state"] (defScope s_Office__let_go) := ⟨rfl, rfl, rfl, by decide +kernel, rfl, by decide +kernel, by decide +kernel⟩
abbrev s_Office__use : Stmt := inClass (top 27) 19
theorem sc_Office__use : FnScope ["self", "numbers", "number"] ["self", "numbers"] (defScope s_Office__use) := ⟨rfl, rfl, rfl, by decide +kernel, rfl, by decide +kernel, by decide +kernel⟩
abbrev s_state_of : Stmt := top 29
theorem sc_state_of : FnScope ["office", "number"] ["office", "number"] (defScope s_state_of) := ⟨rfl, rfl, rfl, by decide +kernel, rfl, by decide +kernel, by decide +kernel⟩
abbrev s_gaps : Stmt := top 30
theorem sc_gaps : FnScope ["office", "greatest", "number"] ["office"] (defScope s_gaps) := ⟨rfl, rfl, rfl, by decide +kernel, rfl, by decide +kernel, by decide +kernel⟩
abbrev s_greatest_used : Stmt := top 31
theorem sc_greatest_used : FnScope ["office", "used", "number"] ["office"] (defScope s_greatest_used) := ⟨rfl, rfl, rfl, by decide +kernel, rfl, by decide +kernel, by decide +kernel⟩
abbrev s_l_start : Stmt := top 33
theorem sc_l_start : FnScope ["_law_script", "_law_mixed", "_law_cell"] ["_law_script"] (defScope s_l_start) := ⟨rfl, rfl, rfl, by decide +kernel, rfl, by decide +kernel, by decide +kernel⟩
abbrev s_l_drawn : Stmt := top 34
theorem sc_l_drawn : FnScope ["_law_state", "_law_many", "_law_found", "_law_cell"] ["_law_state", "_law_many"] (defScope s_l_drawn) := ⟨rfl, rfl, rfl, by decide +kernel, rfl, by decide +kernel, by decide +kernel⟩
abbrev s_l_same : Stmt := top 35
theorem sc_l_same : FnScope ["_law_found", "_law_due", "_law_k"] ["_law_found", "_law_due"] (defScope s_l_same) := ⟨rfl, rfl, rfl, by decide +kernel, rfl, by decide +kernel, by decide +kernel⟩
abbrev s_l_far : Stmt := top 36
theorem sc_l_far : FnScope ["_law_state", "_law_most", "_law_far_here"] ["_law_state", "_law_most"] (defScope s_l_far) := ⟨rfl, rfl, rfl, by decide +kernel, rfl, by decide +kernel, by decide +kernel⟩
abbrev s_l_kind : Stmt := top 37
theorem sc_l_kind : FnScope ["_law_work", "e", "_law_kinds", "_law_other"] ["_law_work"] (defScope s_l_kind) := ⟨rfl, rfl, rfl, by decide +kernel, rfl, by decide +kernel, by decide +kernel⟩
abbrev s_l_works : Stmt := top 38
theorem sc_l_works : FnScope ["_law_office", "_law_desk", "_law_many", "_law_works_here"] ["_law_office", "_law_desk", "_law_many"] (defScope s_l_works) := ⟨rfl, rfl, rfl, by decide +kernel, rfl, by decide +kernel, by decide +kernel⟩
abbrev s_law : Stmt := top 39
theorem sc_law : FnScope ["_law_script", "_law_state", "_law_turn", "_law_top", "_law_desks", "_law_odd", "_law_other", "_law_office", "_law_bad", "_law_work", "_law_desk", "_law_far_here"] ["_law_script"] (defScope s_law) := ⟨rfl, rfl, rfl, by decide +kernel, rfl, by decide +kernel, by decide +kernel⟩
section
variable {X : Cx}
theorem pe_gs {x z : Str} {pos : Pos} (hg : Gl X x) (h : ∃ t, X.mg x = some (.str z t)) (hd : (x == ("__debug__" : Str)) = false := by decide) : PE X (.Name x pos) (tC (.str z)) := by
  obtain ⟨t, e⟩ := h
  exact pe_glob hg e ⟨t, rfl⟩ hd
theorem pe_gi {x : Str} {z : Int} {pos : Pos} (hg : Gl X x) (h : ∃ t, X.mg x = some (.int z t)) (hd : (x == ("__debug__" : Str)) = false := by decide) : PE X (.Name x pos) (tC (.int z)) := by
  obtain ⟨t, e⟩ := h
  exact pe_glob hg e ⟨t, rfl⟩ hd
end
structure Ad where
  C : Addr
  GapError : Addr
  NoOffice : Addr
  NoDesk : Addr
  Stopped : Addr
  NoRoom : Addr
  NoCount : Addr
  NoWord : Addr
  Short : Addr
  NoNumber : Addr
  Twice : Addr
  NotThere : Addr
  NoWorld : Addr
  NoBox : Addr
  Office_init : Addr
  Office_lend : Addr
  Office_report : Addr
  Office_back : Addr
  Office_stop : Addr
  Office_settle : Addr
  Office_open_numbers : Addr
  Office_rest : Addr
  Office_has_rest : Addr
  Office_least_used : Addr
  Office_numbers : Addr
  Office_state : Addr
  Office_holder : Addr
  Office__check_desk : Addr
  Office__check_going : Addr
  Office__first_of_free : Addr
  Office__let_go : Addr
  Office__use : Addr
  state_of : Addr
  gaps : Addr
  greatest_used : Addr
  l_start : Addr
  l_drawn : Addr
  l_same : Addr
  l_far : Addr
  l_kind : Addr
  l_works : Addr
  law : Addr
structure Fd where
  Office_init : FuncData
  Office_lend : FuncData
  Office_report : FuncData
  Office_back : FuncData
  Office_stop : FuncData
  Office_settle : FuncData
  Office_open_numbers : FuncData
  Office_rest : FuncData
  Office_has_rest : FuncData
  Office_least_used : FuncData
  Office_numbers : FuncData
  Office_state : FuncData
  Office_holder : FuncData
  Office__check_desk : FuncData
  Office__check_going : FuncData
  Office__first_of_free : FuncData
  Office__let_go : FuncData
  Office__use : FuncData
  state_of : FuncData
  gaps : FuncData
  greatest_used : FuncData
  l_start : FuncData
  l_drawn : FuncData
  l_same : FuncData
  l_far : FuncData
  l_kind : FuncData
  l_works : FuncData
  law : FuncData
structure XF (K : PySem.W.Frag) (mg : Str → Option Value) (nm : Str) (C : Addr) : Prop where
  x : PySem.W.excIn K C [.type "ValueError", .type "Exception", .type "BaseException", .type "object"] "ValueError.__new__" = true
  g : mg nm = some (.ref C)
  k : PySem.W.keepIn K (.ref C) = true
  b : PySem.W.subIn K (.ref C) (.type "BaseException") = some true
  t : PySem.W.typeIn K (.ref C) = some (.type "type")
structure Txt (K : PySem.W.Frag) (mg : Str → Option Value) (a : Ad) (fd : Fd) : Prop where
  cl : Cls K a.C
  na_states : NoAttr K a.C "_states"
  na_holders : NoAttr K a.C "_holders"
  na_stages : NoAttr K a.C "_stages"
  na_lent : NoAttr K a.C "_lent"
  g_Office : mg "Office" = some (.ref a.C)
  mkO : Mk K a.C a.Office_init
  n_ValueError : mg "ValueError" = none
  n_bool : mg "bool" = none
  n_dict : mg "dict" = none
  n_int : mg "int" = none
  n_isinstance : mg "isinstance" = none
  n_len : mg "len" = none
  n_list : mg "list" = none
  n_max : mg "max" = none
  n_range : mg "range" = none
  n_sorted : mg "sorted" = none
  n_str : mg "str" = none
  n_tuple : mg "tuple" = none
  n_zip : mg "zip" = none
  g_MOST_NUMBERS : ∃ t, mg "MOST_NUMBERS" = some (.int 400 t)
  g_MOST_DESKS : ∃ t, mg "MOST_DESKS" = some (.int 6 t)
  g_FREE : ∃ t, mg "FREE" = some (.str "free" t)
  g_OPEN : ∃ t, mg "OPEN" = some (.str "open" t)
  g_PAPER : ∃ t, mg "PAPER" = some (.str "paper" t)
  g_SPOILT : ∃ t, mg "SPOILT" = some (.str "spoilt" t)
  g_USED : ∃ t, mg "USED" = some (.str "used" t)
  g_REST : ∃ t, mg "REST" = some (.str "rest" t)
  g_GOING : ∃ t, mg "GOING" = some (.str "going" t)
  g_STOPPED : ∃ t, mg "STOPPED" = some (.str "stopped" t)
  g_SETTLED : ∃ t, mg "SETTLED" = some (.str "settled" t)
  x_GapError : XF K mg "GapError" a.GapError
  x_NoOffice : XF K mg "NoOffice" a.NoOffice
  x_NoDesk : XF K mg "NoDesk" a.NoDesk
  x_Stopped : XF K mg "Stopped" a.Stopped
  x_NoRoom : XF K mg "NoRoom" a.NoRoom
  x_NoCount : XF K mg "NoCount" a.NoCount
  x_NoWord : XF K mg "NoWord" a.NoWord
  x_Short : XF K mg "Short" a.Short
  x_NoNumber : XF K mg "NoNumber" a.NoNumber
  x_Twice : XF K mg "Twice" a.Twice
  x_NotThere : XF K mg "NotThere" a.NotThere
  x_NoWorld : XF K mg "NoWorld" a.NoWorld
  x_NoBox : XF K mg "NoBox" a.NoBox
  F_Office_init : Fun K "__init__" "Office.__init__" s_Office_init a.Office_init fd.Office_init
  b_Office_init : Binds K fd.Office_init ["self", "top", "desks"] []
  F_Office_lend : Fun K "lend" "Office.lend" s_Office_lend a.Office_lend fd.Office_lend
  b_Office_lend : Binds K fd.Office_lend ["self", "desk", "many"] []
  m_Office_lend : Meth K a.C "lend" a.Office_lend
  F_Office_report : Fun K "report" "Office.report" s_Office_report a.Office_report fd.Office_report
  b_Office_report : Binds K fd.Office_report ["self", "desk", "words"] []
  m_Office_report : Meth K a.C "report" a.Office_report
  F_Office_back : Fun K "back" "Office.back" s_Office_back a.Office_back fd.Office_back
  b_Office_back : Binds K fd.Office_back ["self", "desk"] []
  m_Office_back : Meth K a.C "back" a.Office_back
  F_Office_stop : Fun K "stop" "Office.stop" s_Office_stop a.Office_stop fd.Office_stop
  b_Office_stop : Binds K fd.Office_stop ["self", "desk"] []
  m_Office_stop : Meth K a.C "stop" a.Office_stop
  F_Office_settle : Fun K "settle" "Office.settle" s_Office_settle a.Office_settle fd.Office_settle
  b_Office_settle : Binds K fd.Office_settle ["self", "desk", "many"] []
  m_Office_settle : Meth K a.C "settle" a.Office_settle
  F_Office_open_numbers : Fun K "open_numbers" "Office.open_numbers" s_Office_open_numbers a.Office_open_numbers fd.Office_open_numbers
  b_Office_open_numbers : Binds K fd.Office_open_numbers ["self", "desk"] []
  m_Office_open_numbers : Meth K a.C "open_numbers" a.Office_open_numbers
  F_Office_rest : Fun K "rest" "Office.rest" s_Office_rest a.Office_rest fd.Office_rest
  b_Office_rest : Binds K fd.Office_rest ["self", "desk"] []
  m_Office_rest : Meth K a.C "rest" a.Office_rest
  F_Office_has_rest : Fun K "has_rest" "Office.has_rest" s_Office_has_rest a.Office_has_rest fd.Office_has_rest
  b_Office_has_rest : Binds K fd.Office_has_rest ["self", "desk"] []
  m_Office_has_rest : Meth K a.C "has_rest" a.Office_has_rest
  F_Office_least_used : Fun K "least_used" "Office.least_used" s_Office_least_used a.Office_least_used fd.Office_least_used
  b_Office_least_used : Binds K fd.Office_least_used ["self", "desk"] []
  m_Office_least_used : Meth K a.C "least_used" a.Office_least_used
  F_Office_numbers : Fun K "numbers" "Office.numbers" s_Office_numbers a.Office_numbers fd.Office_numbers
  b_Office_numbers : Binds K fd.Office_numbers ["self"] []
  m_Office_numbers : Meth K a.C "numbers" a.Office_numbers
  F_Office_state : Fun K "state" "Office.state" s_Office_state a.Office_state fd.Office_state
  b_Office_state : Binds K fd.Office_state ["self", "number"] []
  m_Office_state : Meth K a.C "state" a.Office_state
  F_Office_holder : Fun K "holder" "Office.holder" s_Office_holder a.Office_holder fd.Office_holder
  b_Office_holder : Binds K fd.Office_holder ["self", "number"] []
  m_Office_holder : Meth K a.C "holder" a.Office_holder
  F_Office__check_desk : Fun K "_check_desk" "Office._check_desk" s_Office__check_desk a.Office__check_desk fd.Office__check_desk
  b_Office__check_desk : Binds K fd.Office__check_desk ["self", "desk"] []
  m_Office__check_desk : Meth K a.C "_check_desk" a.Office__check_desk
  F_Office__check_going : Fun K "_check_going" "Office._check_going" s_Office__check_going a.Office__check_going fd.Office__check_going
  b_Office__check_going : Binds K fd.Office__check_going ["self", "desk"] []
  m_Office__check_going : Meth K a.C "_check_going" a.Office__check_going
  F_Office__first_of_free : Fun K "_first_of_free" "Office._first_of_free" s_Office__first_of_free a.Office__first_of_free fd.Office__first_of_free
  b_Office__first_of_free : Binds K fd.Office__first_of_free ["self", "many"] []
  m_Office__first_of_free : Meth K a.C "_first_of_free" a.Office__first_of_free
  F_Office__let_go : Fun K "_let_go" "Office._let_go" s_Office__let_go a.Office__let_go fd.Office__let_go
  b_Office__let_go : Binds K fd.Office__let_go ["self", "number", "state"] []
  m_Office__let_go : Meth K a.C "_let_go" a.Office__let_go
  F_Office__use : Fun K "_use" "Office._use" s_Office__use a.Office__use fd.Office__use
  b_Office__use : Binds K fd.Office__use ["self", "numbers"] []
  m_Office__use : Meth K a.C "_use" a.Office__use
  F_state_of : Fun K "state_of" "state_of" s_state_of a.state_of fd.state_of
  b_state_of : Binds K fd.state_of ["office", "number"] []
  g_state_of : mg "state_of" = some (.ref a.state_of)
  F_gaps : Fun K "gaps" "gaps" s_gaps a.gaps fd.gaps
  b_gaps : Binds K fd.gaps ["office"] []
  g_gaps : mg "gaps" = some (.ref a.gaps)
  F_greatest_used : Fun K "_greatest_used" "_greatest_used" s_greatest_used a.greatest_used fd.greatest_used
  b_greatest_used : Binds K fd.greatest_used ["office"] []
  g_greatest_used : mg "_greatest_used" = some (.ref a.greatest_used)
  F_l_start : Fun K "_law_start" "_law_start" s_l_start a.l_start fd.l_start
  b_l_start : Binds K fd.l_start ["_law_script"] []
  g_l_start : mg "_law_start" = some (.ref a.l_start)
  F_l_drawn : Fun K "_law_drawn" "_law_drawn" s_l_drawn a.l_drawn fd.l_drawn
  b_l_drawn : Binds K fd.l_drawn ["_law_state", "_law_many"] []
  g_l_drawn : mg "_law_drawn" = some (.ref a.l_drawn)
  F_l_same : Fun K "_law_same" "_law_same" s_l_same a.l_same fd.l_same
  b_l_same : Binds K fd.l_same ["_law_found", "_law_due"] []
  g_l_same : mg "_law_same" = some (.ref a.l_same)
  F_l_far : Fun K "_law_far" "_law_far" s_l_far a.l_far fd.l_far
  b_l_far : Binds K fd.l_far ["_law_state", "_law_most"] []
  g_l_far : mg "_law_far" = some (.ref a.l_far)
  F_l_kind : Fun K "_law_kind" "_law_kind" s_l_kind a.l_kind fd.l_kind
  b_l_kind : Binds K fd.l_kind ["_law_work"] []
  g_l_kind : mg "_law_kind" = some (.ref a.l_kind)
  F_l_works : Fun K "_law_works" "_law_works" s_l_works a.l_works fd.l_works
  b_l_works : Binds K fd.l_works ["_law_office", "_law_desk", "_law_many"] []
  g_l_works : mg "_law_works" = some (.ref a.l_works)
  F_law : Fun K "law" "law" s_law a.law fd.law
  b_law : Binds K fd.law ["_law_script"] []
  g_law : mg "law" = some (.ref a.law)
section
variable {P : Program} {w : World} {K : PySem.W.Frag} {mg : Str → Option Value} {base : Heap} {N : List Str} {q : Str} {sc : Scope} {f : Addr} {cdv : Value} {A : Around} {outer : List Env} {s : Shared} {H : Hp} {E : XK}
theorem takesU : Takes (cxOf (L2.CX P w) P w K mg base N q sc f cdv A outer s H E) (fun cls d _ H' => E cls d H') := takes_of rfl rfl rfl rfl
theorem passU : Passes (L2.CX P w) (cxOf (L2.CX P w) P w K mg base N q sc f cdv A outer s H E) E := passes_call takesU (fun _ _ _ _ h => h)
theorem passesU : PassesOwn (model P w) (cxOf (L2.CX P w) P w K mg base N q sc f cdv A outer s H E).A (cxOf (L2.CX P w) P w K mg base N q sc f cdv A outer s H E).env (cxOf (L2.CX P w) P w K mg base N q sc f cdv A outer s H E).xe := passes_of rfl
end
/-! ### the office as it stands in the heap -/
structure Fp where
  p : Addr
  dx : Addr
  dS : Addr
  dH : Addr
  aS : Addr
  aL : Addr
  ls : List Addr
def Fp.foot (F : Fp) : List Addr := F.p :: F.dS :: F.dH :: F.aS :: F.aL :: F.ls
def ofl (F : Fp) : List (Str × V) := putF "_lent" (.ref F.aL) (putF "_stages" (.ref F.aS) (putF "_holders" (.ref F.dH) (putF "_states" (.ref F.dS) [])))
theorem nn1 : ¬ (("_states" : Str) = "_lent") := by decide +kernel
theorem nn2 : ¬ (("_states" : Str) = "_stages") := by decide +kernel
theorem nn3 : ¬ (("_states" : Str) = "_holders") := by decide +kernel
theorem nn4 : ¬ (("_holders" : Str) = "_lent") := by decide +kernel
theorem nn5 : ¬ (("_holders" : Str) = "_stages") := by decide +kernel
theorem nn6 : ¬ (("_stages" : Str) = "_lent") := by decide +kernel
theorem ofl_states (F : Fp) : (ofl F).lookup ("_states" : Str) = some (.ref F.dS) := by
  unfold ofl
  rw [lookup_putF, if_neg nn1, lookup_putF, if_neg nn2, lookup_putF, if_neg nn3, lookup_putF, if_pos rfl]
theorem ofl_holders (F : Fp) : (ofl F).lookup ("_holders" : Str) = some (.ref F.dH) := by
  unfold ofl
  rw [lookup_putF, if_neg nn4, lookup_putF, if_neg nn5, lookup_putF, if_pos rfl]
theorem ofl_stages (F : Fp) : (ofl F).lookup ("_stages" : Str) = some (.ref F.aS) := by
  unfold ofl
  rw [lookup_putF, if_neg nn6, lookup_putF, if_pos rfl]
theorem ofl_lent (F : Fp) : (ofl F).lookup ("_lent" : Str) = some (.ref F.aL) := by
  unfold ofl
  rw [lookup_putF, if_pos rfl]
theorem ofl_no (F : Fp) {m : Str} (h1 : ¬ m = "_lent") (h2 : ¬ m = "_stages") (h3 : ¬ m = "_holders") (h4 : ¬ m = "_states") : (ofl F).lookup m = none := by
  unfold ofl
  rw [lookup_putF, if_neg h1, lookup_putF, if_neg h2, lookup_putF, if_neg h3, lookup_putF, if_neg h4]
  all_goals rfl
structure Off (a : Ad) (H : Hp) (F : Fp) (o : Of) : Prop where
  ob : H F.p = some (.ins a.C F.dx (ofl F))
  st : H F.dS = some (.dK (stK o.top o.st))
  ho : ∃ hk, H F.dH = some (.dK hk) ∧ HolK hk o
  sg : H F.aS = some (.lst (o.sg.map V.str))
  le : H F.aL = some (.lst (F.ls.map V.ref))
  ll : F.ls.length = o.le.length
  each : ∀ (i : Nat) (l : Addr) (ns : List Int), F.ls[i]? = some l → o.le[i]? = some ns → H l = some (.lst (ns.map V.int))
  nd : F.foot.Nodup
theorem Off.stay {a : Ad} {H H' : Hp} {F : Fp} {o : Of} (h : Off a H F o) (k : ∀ c ∈ F.foot, ∀ u, H c = some u → H' c = some u) : Off a H' F o := by
  obtain ⟨h1, h2, ⟨hk, h3, hh⟩, h4, h5, h6, h7, h8⟩ := h
  refine ⟨k _ (by simp [Fp.foot]) _ h1, k _ (by simp [Fp.foot]) _ h2, ⟨hk, k _ (by simp [Fp.foot]) _ h3, hh⟩, k _ (by simp [Fp.foot]) _ h4, k _ (by simp [Fp.foot]) _ h5, h6, fun i l ns e1 e2 => ?_, h8⟩
  have hm : l ∈ F.ls := List.mem_of_getElem? e1
  exact k _ (by simp [Fp.foot, hm]) _ (h7 i l ns e1 e2)
/-! ### readings of the fields -/
section
variable {K : PySem.W.Frag} {mg : Str → Option Value} {a : Ad} {fd : Fd} {H : Hp} {F : Fp} {o : Of} {σ : L2.St} {Q : VK} {i j : Nat}
theorem rd_states (T : Txt K mg a fd) (O : Off a H F o) (h0 : σ[i]? = some (some (.ref F.p))) (h : Q (.ref F.dS) H) : tFld K (tVar i) "_states" σ H Q :=
  ⟨_, h0, F.p, a.C, F.dx, _, _, rfl, O.ob, T.cl, T.na_states, ofl_states F, h⟩
theorem rd_holders (T : Txt K mg a fd) (O : Off a H F o) (h0 : σ[i]? = some (some (.ref F.p))) (h : Q (.ref F.dH) H) : tFld K (tVar i) "_holders" σ H Q :=
  ⟨_, h0, F.p, a.C, F.dx, _, _, rfl, O.ob, T.cl, T.na_holders, ofl_holders F, h⟩
theorem rd_stages (T : Txt K mg a fd) (O : Off a H F o) (h0 : σ[i]? = some (some (.ref F.p))) (h : Q (.ref F.aS) H) : tFld K (tVar i) "_stages" σ H Q :=
  ⟨_, h0, F.p, a.C, F.dx, _, _, rfl, O.ob, T.cl, T.na_stages, ofl_stages F, h⟩
theorem rd_lent (T : Txt K mg a fd) (O : Off a H F o) (h0 : σ[i]? = some (some (.ref F.p))) (h : Q (.ref F.aL) H) : tFld K (tVar i) "_lent" σ H Q :=
  ⟨_, h0, F.p, a.C, F.dx, _, _, rfl, O.ob, T.cl, T.na_lent, ofl_lent F, h⟩
/-- self._states[number] -/
theorem rd_state (T : Txt K mg a fd) (O : Off a H F o) (h0 : σ[i]? = some (some (.ref F.p))) {n : Int} (h1 : σ[j]? = some (some (.int n))) (b : 1 ≤ n ∧ n ≤ (o.top : Int)) (h : Q (.str (o.st n)) H) : tDGet (tFld K (tVar i) "_states") (tVar j) σ H Q := by
  refine rd_states T O h0 ⟨_, h1, F.dS, _, rfl, ?_, h⟩
  have e := DGet.k (k := Sum.inl n) O.st
  rw [valV_stK, if_pos b] at e
  exact e
/-- self._stages[desk] -/
theorem rd_stage (T : Txt K mg a fd) (O : Off a H F o) (h0 : σ[i]? = some (some (.ref F.p))) {d : Nat} (h1 : σ[j]? = some (some (.int (d : Int)))) {z : Str} (b : o.sg[d]? = some z) (h : Q (.str z) H) : tOp (rIxL K) (tFld K (tVar i) "_stages") (tVar j) σ H Q := by
  refine rd_stages T O h0 ⟨_, h1, F.aS, _, _, _, rfl, rfl, SqL.of O.sg, atI_nat ?_, h⟩
  rw [List.getElem?_map, b]
  rfl
/-- self._lent[desk] -/
theorem rd_lent1 (T : Txt K mg a fd) (O : Off a H F o) (h0 : σ[i]? = some (some (.ref F.p))) {d : Nat} (h1 : σ[j]? = some (some (.int (d : Int)))) {l : Addr} (b : F.ls[d]? = some l) (h : Q (.ref l) H) : tOp (rIxL K) (tFld K (tVar i) "_lent") (tVar j) σ H Q := by
  refine rd_lent T O h0 ⟨_, h1, F.aL, _, _, _, rfl, rfl, SqL.of O.le, atI_nat ?_, h⟩
  rw [List.getElem?_map, b]
  rfl
end
section
variable {P : Program} {w : World} {K : PySem.W.Frag} {mg : Str → Option Value} {base : Heap} {a : Ad} {fd : Fd}
/-! ### has_rest, numbers, state, holder -/
def spHasRest (a : Ad) : Sp := fun vs H Q _ => ∃ (F : Fp) (o : Of) (d : Nat) (z : Str), vs = [.ref F.p, .int (d : Int)] ∧ Off a H F o ∧ o.sg[d]? = some z ∧ Q (.bl (decide (z = "stopped"))) H
theorem ok_Office_has_rest (T : Txt K mg a fd) : FnOk P w K mg base CX0 1 a.Office_has_rest fd.Office_has_rest ["self", "desk"] (spHasRest a) := by
  refine T.F_Office_has_rest.ok sc_Office_has_rest (fun vs H Q E h => ?_) (fun cdv A outer s H vs Q E hr h => ?_)
  · obtain ⟨F, o, d, z, rfl, _⟩ := h
    rfl
  · obtain ⟨F, o, d, z, rfl, O, hz, k⟩ := h
    have hu := hu_of hr
    refine ⟨_, (pss_one (ps_ret (pe_cmpR op_eq (pe_ix ix_list (pe_fld (pv 0) rfl) (pv 1) (fun _ _ => rfl)) (pe_gs (by rfl) T.g_STOPPED) (nomark _)))), ?_⟩
    refine rd_stage T O rfl rfl hz ⟨rfl, ?_⟩
    have e : decide (V.str z = V.str "stopped") = decide (z = "stopped") := by
      by_cases c : z = "stopped"
      · rw [decide_eq_true c, decide_eq_true (by rw [c])]
      · rw [decide_eq_false c, decide_eq_false (fun q => c (by injection q))]
    show Q (V.bl (decide (V.str z = V.str "stopped"))) H
    rw [e]
    exact k
def spNumbers (a : Ad) : Sp := fun vs H Q _ => ∃ (F : Fp) (o : Of), vs = [.ref F.p] ∧ Off a H F o ∧ ∀ p, H p = none → Q (.ref p) (upd H p (.lst ((List.range o.top).map fun (i : Nat) => V.int ((i : Int) + 1))))
theorem ok_Office_numbers (T : Txt K mg a fd) : FnOk P w K mg base CX0 1 a.Office_numbers fd.Office_numbers ["self"] (spNumbers a) := by
  refine T.F_Office_numbers.ok sc_Office_numbers (fun vs H Q E h => ?_) (fun cdv A outer s H vs Q E hr h => ?_)
  · obtain ⟨F, o, rfl, _⟩ := h
    rfl
  · obtain ⟨F, o, rfl, O, k⟩ := h
    refine ⟨_, (pss_one (ps_ret (pe_callTy (call_listD rfl) (by rfl) T.n_list (by decide +kernel) (pa_cons (pe_fld (pv 0) rfl) pa_nil)))), ?_⟩
    refine rd_states T O rfl ⟨F.dS, _, rfl, .inl O.st, fun p hp => ?_⟩
    rw [stK_keys]
    exact k p hp
def spHolder (a : Ad) : Sp := fun vs H Q _ => ∃ (F : Fp) (o : Of) (n : Int), vs = [.ref F.p, .int n] ∧ Off a H F o ∧ Q (match o.ho n with | some d => V.int d | none => .non) H
theorem ok_Office_holder (T : Txt K mg a fd) : FnOk P w K mg base CX0 1 a.Office_holder fd.Office_holder ["self", "number"] (spHolder a) := by
  refine T.F_Office_holder.ok sc_Office_holder (fun vs H Q E h => ?_) (fun cdv A outer s H vs Q E hr h => ?_)
  · obtain ⟨F, o, n, rfl, _⟩ := h
    rfl
  · obtain ⟨F, o, n, rfl, O, k⟩ := h
    have hu := hu_of hr
    obtain ⟨hk, h3, hh⟩ := O.ho
    refine ⟨_, (pss_one (ps_ret (pe_dget1 hu (pe_fld (pv 0) rfl) (pv 1) ⟨rfl, rfl, rfl, rfl⟩))), ?_⟩
    refine ⟨_, rfl, F.p, a.C, F.dx, _, _, rfl, O.ob, T.cl, T.na_holders, ofl_holders F, ?_⟩
    refine ⟨F.dH, rfl, .inl ⟨hk, .inl h3⟩, _, rfl, _, DGet.k (k := Sum.inl n) h3, ?_⟩
    rw [hh.at_ n]
    cases e : o.ho n with
    | none => rw [e] at k; exact k
    | some d => rw [e] at k; exact k
/-! ### messages -/
section
variable {ts : List TE} {acc : Str} {σ : L2.St} {H : Hp} {Q : Str → Hp → Prop}
theorem js_s {z : Str} {b : Nat} (ha : acc.length ≤ b) (hl : z.length ≤ 100) (hb : b ≤ 10000) (k : ∀ acc' : Str, acc'.length ≤ b + 100 → tJs ts acc' σ H Q) : tJs (tC (.str z) :: ts) acc σ H Q := by
  have e : (acc ++ z).length ≤ b + 100 := by
    rw [Str.length_append]
    omega
  exact ⟨z, rfl, Nat.le_trans e (by rw [sizeLine_eq]; omega), k _ e⟩
theorem js_f {i : Nat} {n : Int} {b : Nat} (hs : σ[i]? = some (some (.int n))) (hn : n.natAbs.log2 < 1920) (ha : acc.length ≤ b) (hb : b ≤ 10000) (k : ∀ acc' : Str, acc'.length ≤ b + 1921 → tJs ts acc' σ H Q) : tJs (tFmt (tVar i) :: ts) acc σ H Q := by
  have h1 : (Str.ofString (toString n)).length ≤ 1921 := PyProof.Rows.int_text_len_1921 hn
  have e : (acc ++ Str.ofString (toString n)).length ≤ b + 1921 := by
    rw [Str.length_append]
    omega
  exact ⟨_, hs, .inr ⟨n, rfl, hn, _, rfl, Nat.le_trans e (by rw [sizeLine_eq]; omega), k _ e⟩⟩
end
theorem deqT {z y : Str} (h : z = y) : decide (V.str z = V.str y) = true := decide_eq_true (by rw [h])
theorem deqF {z y : Str} (h : ¬ z = y) : decide (V.str z = V.str y) = false := decide_eq_false fun q => h (by injection q)
theorem dneT {z y : Str} (h : ¬ z = y) : (!decide (V.str z = V.str y)) = true := by rw [deqF h]; rfl
theorem dneF {z y : Str} (h : z = y) : (!decide (V.str z = V.str y)) = false := by rw [deqT h]; rfl
theorem one_le : ∀ v : V, [v].length ≤ sizeLine := fun v => by
  rw [sizeLine_eq]
  exact (by decide : 1 ≤ 16777216)
/-! ### state, the desks' checks -/
def spState (a : Ad) : Sp := fun vs H Q E => ∃ (F : Fp) (o : Of) (n : Int), vs = [.ref F.p, .int n] ∧ Off a H F o ∧ n.natAbs.log2 < 1920 ∧ (¬ (1 ≤ n ∧ n ≤ (o.top : Int)) → E (.ref a.NoNumber) none H) ∧ (1 ≤ n ∧ n ≤ (o.top : Int) → Q (.str (o.st n)) H)
theorem ok_Office_state (T : Txt K mg a fd) : FnOk P w K mg base (L2.CX P w) 1 a.Office_state fd.Office_state ["self", "number"] (spState a) := by
  refine T.F_Office_state.okX sc_Office_state (fun vs H Q E h => ?_) (fun cdv A outer s H vs Q E hr h => ?_)
  · obtain ⟨F, o, n, rfl, _⟩ := h
    rfl
  · obtain ⟨F, o, n, rfl, O, hn, k1, k2⟩ := h
    have hu := hu_of hr
    refine ⟨_, (pss_cons (ps_if (pt_cmp (pc_dnotin hu (pv 1) (pe_fld (pv 0) rfl))) (pss_one (ps_raise rfl takesU (pmk_ownA PySem.F.excBase_ValueError T.x_NoNumber.x T.x_NoNumber.g T.x_NoNumber.k (raises_own T.x_NoNumber.b T.x_NoNumber.t) (by rfl) (pa_cons (pe_joined (.cons pe_str (.cons (pe_fmt (pv 1)) PJ.nil))) pa_nil)))) pss_nil)
    (pss_one (ps_ret (pe_dget hu (pe_fld (pv 0) rfl) (pv 1) (fun _ _ => rfl))))), ?_⟩
    refine ⟨_, rfl, ?_⟩
    refine rd_states T O rfl ⟨F.dS, _, rfl, DGet.k (k := Sum.inl n) O.st, _, rfl, ?_⟩
    rw [valV_stK]
    by_cases c : 1 ≤ n ∧ n ≤ (o.top : Int)
    · rw [if_pos c]
      refine iteF ?_
      exact rd_state T O rfl rfl c (k2 c)
    · rw [if_neg c]
      refine iteT ?_
      exact js_s (b := 0) (Nat.le_refl _) (by decide +kernel) (by omega) fun _ ha => js_f rfl hn ha (by omega) fun _ _ => ⟨one_le _, k1 c⟩
def spCheck (a : Ad) : Sp := fun vs H Q E => ∃ (F : Fp) (o : Of) (d : Int), vs = [.ref F.p, .int d] ∧ Off a H F o ∧ d.natAbs.log2 < 1920 ∧ (¬ (0 ≤ d ∧ d < (o.sg.length : Int)) → E (.ref a.NoDesk) none H) ∧ (0 ≤ d ∧ d < (o.sg.length : Int) → Q .non H)
theorem ok_Office__check_desk (T : Txt K mg a fd) : FnOk P w K mg base (L2.CX P w) 1 a.Office__check_desk fd.Office__check_desk ["self", "desk"] (spCheck a) := by
  refine T.F_Office__check_desk.okX sc_Office__check_desk (fun vs H Q E h => ?_) (fun cdv A outer s H vs Q E hr h => ?_)
  · obtain ⟨F, o, d, rfl, _⟩ := h
    rfl
  · obtain ⟨F, o, d, rfl, O, hn, k1, k2⟩ := h
    have hu := hu_of hr
    refine ⟨_, (pss_one (ps_if (PW.pt (pw_or (pt_cmpR op_lt (pv 1) pe_int (nomark _)) (pw_or1 (pt_cmpR op_ge (pv 1) (pe_callB call_len_seq (by rfl) T.n_len PySem.boot_len (pa_cons (pe_fld (pv 0) rfl) pa_nil)) (nomark _))))) (pss_one (ps_raise rfl takesU (pmk_ownA PySem.F.excBase_ValueError T.x_NoDesk.x T.x_NoDesk.g T.x_NoDesk.k (raises_own T.x_NoDesk.b T.x_NoDesk.t) (by rfl) (pa_cons (pe_joined (.cons pe_str (.cons (pe_fmt (pv 1)) PJ.nil))) pa_nil)))) pss_nil)), ?_⟩
    refine ⟨_, rfl, _, _, rfl, rfl, _, rfl, ?_⟩
    by_cases c : d < 0
    · rw [decide_eq_true c]
      refine iteT (iteT ?_)
      exact js_s (b := 0) (Nat.le_refl _) (by decide +kernel) (by omega) fun _ ha => js_f rfl hn ha (by omega) fun _ _ => ⟨one_le _, k1 (by omega)⟩
    · rw [decide_eq_false c]
      refine iteF ?_
      refine ⟨_, rfl, ?_⟩
      refine rd_stages T O rfl ⟨F.aS, _, rfl, .inl (SqL.of O.sg), _, _, rfl, rfl, _, rfl, ?_⟩
      rw [List.length_map]
      by_cases c2 : (o.sg.length : Int) ≤ d
      · rw [decide_eq_true c2]
        refine iteT ?_
        exact js_s (b := 0) (Nat.le_refl _) (by decide +kernel) (by omega) fun _ ha => js_f rfl hn ha (by omega) fun _ _ => ⟨one_le _, k1 (by omega)⟩
      · rw [decide_eq_false c2]
        refine iteF ?_
        exact k2 (by omega)
def spGoing (a : Ad) : Sp := fun vs H Q E => ∃ (F : Fp) (o : Of) (d : Int), vs = [.ref F.p, .int d] ∧ Off a H F o ∧ d.natAbs.log2 < 1920 ∧ (¬ (0 ≤ d ∧ d < (o.sg.length : Int)) → E (.ref a.NoDesk) none H) ∧
  ∀ (i : Nat) (z : Str), d = (i : Int) → o.sg[i]? = some z → (z ≠ "going" → E (.ref a.Stopped) none H) ∧ (z = "going" → Q .non H)
theorem ok_Office__check_going (T : Txt K mg a fd) : FnOk P w K mg base (L2.CX P w) 2 a.Office__check_going fd.Office__check_going ["self", "desk"] (spGoing a) := by
  have G_Office__check_desk := ok_Office__check_desk (P := P) (w := w) (base := base) T
  refine T.F_Office__check_going.okX sc_Office__check_going (fun vs H Q E h => ?_) (fun cdv A outer s H vs Q E hr h => ?_)
  · obtain ⟨F, o, d, rfl, _⟩ := h
    rfl
  · obtain ⟨F, o, d, rfl, O, hn, k1, k2⟩ := h
    have hu := hu_of hr
    refine ⟨_, (pss_cons (ps_expr (pe_meth (pv 0) T.cl T.m_Office__check_desk G_Office__check_desk (hr.mono (by decide)) T.b_Office__check_desk .nil passU (pa_cons (pv 1) pa_nil)))
    (pss_one (ps_if (pt_cmpR op_ne (pe_ix ix_list (pe_fld (pv 0) rfl) (pv 1) (fun _ _ => rfl)) (pe_gs (by rfl) T.g_GOING) (nomark _)) (pss_one (ps_raise rfl takesU (pmk_ownA PySem.F.excBase_ValueError T.x_Stopped.x T.x_Stopped.g T.x_Stopped.k (raises_own T.x_Stopped.b T.x_Stopped.t) (by rfl) (pa_cons (pe_joined (.cons pe_str (.cons (pe_fmt (pv 1)) (.cons pe_str PJ.nil)))) pa_nil)))) pss_nil))), ?_⟩
    refine ⟨_, rfl, F.p, F.dx, _, rfl, O.ob, ofl_no F (by decide +kernel) (by decide +kernel) (by decide +kernel) (by decide +kernel), _, rfl, F, o, d, rfl, O, hn, k1, fun c => ?_⟩
    obtain ⟨i, rfl⟩ := Int.eq_ofNat_of_zero_le c.1
    have hi : i < o.sg.length := by omega
    have e : o.sg[i]? = some o.sg[i] := List.getElem?_eq_getElem hi
    refine rd_stage T O rfl rfl e ?_
    refine ⟨rfl, _, rfl, ?_⟩
    obtain ⟨k3, k4⟩ := k2 i _ rfl e
    by_cases c3 : o.sg[i] = "going"
    · rw [dneF c3]
      exact iteF (k4 c3)
    · rw [dneT c3]
      refine iteT ?_
      exact js_s (b := 0) (Nat.le_refl _) (by decide +kernel) (by omega) fun _ ha => js_f rfl hn ha (by omega) fun _ ha => js_s ha (by decide +kernel) (by omega) fun _ _ => ⟨one_le _, k3 c3⟩
end
end Nu
namespace Nu
open PySem PySem.Spec PyProof.Rows L2
structure Ne (F : Fp) : Prop where
  p_dS : F.p ≠ F.dS
  p_dH : F.p ≠ F.dH
  p_aS : F.p ≠ F.aS
  p_aL : F.p ≠ F.aL
  p_ls : F.p ∉ F.ls
  dS_dH : F.dS ≠ F.dH
  dS_aS : F.dS ≠ F.aS
  dS_aL : F.dS ≠ F.aL
  dS_ls : F.dS ∉ F.ls
  dH_aS : F.dH ≠ F.aS
  dH_aL : F.dH ≠ F.aL
  dH_ls : F.dH ∉ F.ls
  aS_aL : F.aS ≠ F.aL
  aS_ls : F.aS ∉ F.ls
  aL_ls : F.aL ∉ F.ls
  ls : F.ls.Nodup
theorem Off.ne {a : Ad} {H : Hp} {F : Fp} {o : Of} (O : Off a H F o) : Ne F := by
  have h := O.nd
  unfold Fp.foot at h
  simp only [List.nodup_cons, List.mem_cons, not_or] at h
  obtain ⟨⟨h1, h2, h3, h4, h5⟩, ⟨h6, h7, h8, h9⟩, ⟨h10, h11, h12⟩, ⟨h13, h14⟩, h15, h16⟩ := h
  exact ⟨h1, h2, h3, h4, h5, h6, h7, h8, h9, h10, h11, h12, h13, h14, h15, h16⟩
section
variable {a : Ad} {H : Hp} {F : Fp} {o : Of}
theorem ls_ne {F : Fp} {c l : Addr} {i : Nat} (h : c ∉ F.ls) (e : F.ls[i]? = some l) : l ≠ c := fun z => h (by rw [← z]; exact List.mem_of_getElem? e)
theorem Off.setSt (O : Off a H F o) (st' : Int → Str) : Off a (upd H F.dS (.dK (stK o.top st'))) F { o with st := st' } := by
  have n := O.ne
  obtain ⟨hk, h3, hh⟩ := O.ho
  refine ⟨by rw [upd_ne n.p_dS]; exact O.ob, upd_same, ⟨hk, by rw [upd_ne n.dS_dH.symm]; exact h3, ⟨hh.nd, hh.at_, hh.tx⟩⟩, by rw [upd_ne n.dS_aS.symm]; exact O.sg, by rw [upd_ne n.dS_aL.symm]; exact O.le, O.ll, fun i l ns e1 e2 => ?_, O.nd⟩
  rw [upd_ne (ls_ne n.dS_ls e1)]
  exact O.each i l ns e1 e2
theorem Off.setHo (O : Off a H F o) (ho' : Int → Option Int) {hk : List (Key × V)} (hh : HolK hk { o with ho := ho' }) : Off a (upd H F.dH (.dK hk)) F { o with ho := ho' } := by
  have n := O.ne
  refine ⟨by rw [upd_ne n.p_dH]; exact O.ob, by rw [upd_ne n.dS_dH]; exact O.st, ⟨hk, upd_same, hh⟩, by rw [upd_ne n.dH_aS.symm]; exact O.sg, by rw [upd_ne n.dH_aL.symm]; exact O.le, O.ll, fun i l ns e1 e2 => ?_, O.nd⟩
  rw [upd_ne (ls_ne n.dH_ls e1)]
  exact O.each i l ns e1 e2
theorem Off.setSg (O : Off a H F o) (sg' : List Str) : Off a (upd H F.aS (.lst (sg'.map V.str))) F { o with sg := sg' } := by
  have n := O.ne
  obtain ⟨hk, h3, hh⟩ := O.ho
  refine ⟨by rw [upd_ne n.p_aS]; exact O.ob, by rw [upd_ne n.dS_aS]; exact O.st, ⟨hk, by rw [upd_ne n.dH_aS]; exact h3, ⟨hh.nd, hh.at_, hh.tx⟩⟩, upd_same, by rw [upd_ne n.aS_aL.symm]; exact O.le, O.ll, fun i l ns e1 e2 => ?_, O.nd⟩
  rw [upd_ne (ls_ne n.aS_ls e1)]
  exact O.each i l ns e1 e2
theorem nodup_at {l : List Addr} (h : l.Nodup) {i j : Nat} {x : Addr} (h1 : l[i]? = some x) (h2 : l[j]? = some x) : i = j := by
  exact (List.getElem?_inj (List.getElem?_eq_some_iff.mp h1).1 h).mp (h1.trans h2.symm)
/-- the list of a desk changed in place -/
theorem Off.setLe (O : Off a H F o) {d : Nat} {l : Addr} (hd : F.ls[d]? = some l) (ns' : List Int) : Off a (upd H l (.lst (ns'.map V.int))) F { o with le := o.le.set d ns' } := by
  have n := O.ne
  obtain ⟨hk, h3, hh⟩ := O.ho
  have nl : ∀ c, c ∉ F.ls → c ≠ l := fun c hc z => hc (by rw [z]; exact List.mem_of_getElem? hd)
  have hdl : d < o.le.length := by
    rw [← O.ll]
    exact (List.getElem?_eq_some_iff.mp hd).1
  refine ⟨by rw [upd_ne (nl _ n.p_ls)]; exact O.ob, by rw [upd_ne (nl _ n.dS_ls)]; exact O.st, ⟨hk, by rw [upd_ne (nl _ n.dH_ls)]; exact h3, ⟨hh.nd, hh.at_, hh.tx⟩⟩, by rw [upd_ne (nl _ n.aS_ls)]; exact O.sg, by rw [upd_ne (nl _ n.aL_ls)]; exact O.le, by rw [List.length_set]; exact O.ll, fun i l' ns e1 e2 => ?_, O.nd⟩
  by_cases c : l' = l
  · subst c
    have ei := nodup_at n.ls e1 hd
    subst ei
    rw [List.getElem?_set_self hdl] at e2
    cases e2
    exact upd_same
  · rw [upd_ne c]
    have ei : d ≠ i := fun z => by
      rw [z, e1] at hd
      exact c (Option.some.inj hd)
    rw [List.getElem?_set_ne ei] at e2
    exact O.each i l' ns e1 e2
/-- .. exchanged for a new one -/
theorem Off.newLe (O : Off a H F o) {d : Nat} {l' : Addr} {ns' : List Int} (hd : d < F.ls.length) (hl : H l' = some (.lst (ns'.map V.int))) (hn : l' ∉ F.foot) :
    Off a (upd H F.aL (.lst ((F.ls.set d l').map V.ref))) { F with ls := F.ls.set d l' } { o with le := o.le.set d ns' } := by
  have n := O.ne
  obtain ⟨hk, h3, hh⟩ := O.ho
  have n' : l' ≠ F.p ∧ l' ≠ F.dS ∧ l' ≠ F.dH ∧ l' ≠ F.aS ∧ l' ≠ F.aL ∧ l' ∉ F.ls := by
    unfold Fp.foot at hn
    simp only [List.mem_cons, not_or] at hn
    exact hn
  obtain ⟨m1, m2, m3, m4, m5, m6⟩ := n'
  refine ⟨by rw [upd_ne n.p_aL]; exact O.ob, by rw [upd_ne n.dS_aL]; exact O.st, ⟨hk, by rw [upd_ne n.dH_aL]; exact h3, ⟨hh.nd, hh.at_, hh.tx⟩⟩, by rw [upd_ne n.aS_aL]; exact O.sg, upd_same, by rw [List.length_set, List.length_set]; exact O.ll, fun i l ns e1 e2 => ?_, ?_⟩
  · by_cases c : i = d
    · subst c
      have e1' : (F.ls.set i l')[i]? = some l := e1
      rw [List.getElem?_set_self hd] at e1'
      rw [List.getElem?_set_self (by rw [← O.ll]; exact hd)] at e2
      cases e1'
      cases e2
      rw [upd_ne m5]
      exact hl
    · have e1' : (F.ls.set d l')[i]? = some l := e1
      rw [List.getElem?_set_ne (Ne.symm c)] at e1'
      rw [List.getElem?_set_ne (Ne.symm c)] at e2
      rw [upd_ne (ls_ne n.aL_ls e1')]
      exact O.each i l ns e1' e2
  · have hs : ∀ x, x ∈ F.ls.set d l' → x ∈ F.ls ∨ x = l' := fun x hx => List.mem_or_eq_of_mem_set hx
    have no : ∀ c, c ∉ F.ls → l' ≠ c → c ∉ F.ls.set d l' := fun c h1 h2 h3 => (hs c h3).elim h1 fun z => h2 z.symm
    have nds : (F.ls.set d l').Nodup := by
      have : ∀ (l : List Addr) (d : Nat), l.Nodup → l' ∉ l → (l.set d l').Nodup := by
        intro l
        induction l with
        | nil => intro d _ _; simp
        | cons x r ih =>
          intro d nd hx
          obtain ⟨h1, h2⟩ := List.nodup_cons.mp nd
          have hx1 : l' ≠ x := fun z => hx (by rw [z]; exact List.mem_cons_self)
          have hx2 : l' ∉ r := fun z => hx (List.mem_cons_of_mem _ z)
          cases d with
          | zero => exact List.nodup_cons.mpr ⟨hx2, h2⟩
          | succ d =>
            refine List.nodup_cons.mpr ⟨fun z => ?_, ih d h2 hx2⟩
            rcases List.mem_or_eq_of_mem_set z with q | q
            · exact h1 q
            · exact hx1 q.symm
      exact this _ d n.ls m6
    show (F.p :: F.dS :: F.dH :: F.aS :: F.aL :: F.ls.set d l').Nodup
    simp only [List.nodup_cons, List.mem_cons, not_or]
    exact ⟨⟨n.p_dS, n.p_dH, n.p_aS, n.p_aL, no _ n.p_ls m1⟩, ⟨n.dS_dH, n.dS_aS, n.dS_aL, no _ n.dS_ls m2⟩, ⟨n.dH_aS, n.dH_aL, no _ n.dH_ls m3⟩, ⟨n.aS_aL, no _ n.aS_ls m4⟩, no _ n.aL_ls m5, nds⟩
end
/-! ### holders put and dropped -/
theorem valV_drop : ∀ (kvs : List (Key × V)) (k j : Key), valV (dropK kvs k) j = if j = k then none else valV kvs j
  | [], k, j => by
    show (none : Option V) = _
    by_cases c : j = k
    · rw [if_pos c]
    · rw [if_neg c]
      rfl
  | p :: r, k, j => by
    by_cases e : p.1 = k
    · rw [dropK_pos e, valV_drop r k j]
      by_cases c : j = k
      · rw [if_pos c, if_pos c]
      · rw [if_neg c, if_neg c, valV_neg (fun z => c (by rw [← z, e]))]
    · rw [dropK_neg e]
      by_cases c : p.1 = j
      · rw [valV_pos c, if_neg (fun z => e (by rw [c, z])), valV_pos c]
      · rw [valV_neg c, valV_drop r k j]
        by_cases c2 : j = k
        · rw [if_pos c2, if_pos c2]
        · rw [if_neg c2, if_neg c2, valV_neg c]
theorem HolK.drop {hk : List (Key × V)} {o : Of} (h : HolK hk o) (n : Int) : HolK (dropK hk (Sum.inl n)) { o with ho := fun m => if m = n then none else o.ho m } := by
  refine ⟨nd_dropK h.nd, fun m => ?_, fun x => ?_⟩
  · rw [valV_drop]
    show _ = (if m = n then none else o.ho m).map V.int
    by_cases c : m = n
    · rw [if_pos (by rw [c]), if_pos c]
      rfl
    · rw [if_neg (fun z => c (Sum.inl.inj z)), if_neg c]
      exact h.at_ m
  · rw [valV_drop, if_neg (fun z => by cases z)]
    exact h.tx x
theorem HolK.put {hk : List (Key × V)} {o : Of} (h : HolK hk o) {n : Int} (d : Int) (hn : o.ho n = none) : HolK (putK hk (Sum.inl n) (.int d)) { o with ho := fun m => if m = n then some d else o.ho m } := by
  refine ⟨nd_putK _ h.nd (by rw [h.at_, hn]; rfl), fun m => ?_, fun x => ?_⟩
  · rw [valV_put]
    show _ = (if m = n then some d else o.ho m).map V.int
    by_cases c : m = n
    · rw [if_pos (by rw [c]), if_pos c]
      rfl
    · rw [if_neg (fun z => c (Sum.inl.inj z)), if_neg c]
      exact h.at_ m
  · rw [valV_put, if_neg (fun z => by cases z)]
    exact h.tx x
def Of.letgo (o : Of) (n : Int) (z : Str) : Of := { o with st := fun m => if m = n then z else o.st m, ho := fun m => if m = n then none else o.ho m }
section
variable {P : Program} {w : World} {K : PySem.W.Frag} {mg : Str → Option Value} {base : Heap} {a : Ad} {fd : Fd}
def spLetGo (a : Ad) : Sp := fun vs H Q _ => ∃ (F : Fp) (o : Of) (n : Int) (z : Str), vs = [.ref F.p, .int n, .str z] ∧ Off a H F o ∧ (1 ≤ n ∧ n ≤ (o.top : Int)) ∧ o.top ≤ 400 ∧ (∃ d, o.ho n = some d) ∧ ∀ H', Keep F.foot H H' → Off a H' F (o.letgo n z) → Q .non H'
theorem foot_dS (F : Fp) : F.dS ∈ F.foot := by simp [Fp.foot]
theorem foot_dH (F : Fp) : F.dH ∈ F.foot := by simp [Fp.foot]
theorem foot_aS (F : Fp) : F.aS ∈ F.foot := by simp [Fp.foot]
theorem foot_aL (F : Fp) : F.aL ∈ F.foot := by simp [Fp.foot]
theorem foot_ls {F : Fp} {l : Addr} {i : Nat} (h : F.ls[i]? = some l) : l ∈ F.foot := by
  have := List.mem_of_getElem? h
  simp [Fp.foot, this]
theorem ok_Office__let_go (T : Txt K mg a fd) : FnOk P w K mg base CX0 1 a.Office__let_go fd.Office__let_go ["self", "number", "state"] (spLetGo a) := by
  refine T.F_Office__let_go.ok sc_Office__let_go (fun vs H Q E h => ?_) (fun cdv A outer s H vs Q E hr h => ?_)
  · obtain ⟨F, o, n, z, rfl, _⟩ := h
    rfl
  · obtain ⟨F, o, n, z, rfl, O, hn, h400, ⟨d, hd⟩, k⟩ := h
    have hu := hu_of hr
    refine ⟨_, (pss_cons (ps_dput hu (pe_fld (pv 0) rfl) (pv 1) (pv 2) rfl)
    (pss_one (ps_ddel (pe_fld (pv 0) rfl) (pv 1)))), ?_⟩
    refine ⟨_, rfl, ?_⟩
    refine rd_states T O rfl ?_
    refine ⟨_, rfl, F.dS, _, rfl, DPut.k (k := Sum.inl n) O.st (small1000 (by rw [stK_length]; omega)), ?_⟩
    rw [putK_stK _ _ _ _ hn]
    have O1 := O.setSt (fun m => if m = n then z else o.st m)
    obtain ⟨hk, h3, hh⟩ := O1.ho
    refine ⟨_, rfl, F.p, a.C, F.dx, _, _, rfl, O1.ob, T.cl, T.na_holders, ofl_holders F, ?_⟩
    refine ⟨_, rfl, F.dH, hk, Sum.inl n, rfl, h3, rfl, (by rw [hh.at_ n]; show ((o.ho n).map V.int).isSome = true; rw [hd]; rfl), ?_⟩
    exact k _ ((keep_upd (.inl (foot_dS F))).trans (keep_upd (.inl (foot_dH F)))) (O1.setHo _ (hh.drop n))
end
end Nu
namespace Nu
open PySem PySem.Spec PyProof.Rows L2
def Fit (o : Of) (many f : Int) : Prop := 1 ≤ f ∧ f + many - 1 ≤ (o.top : Int) ∧ ∀ n, f ≤ n → n < f + many → o.st n = "free"
def Least (o : Of) (many f : Int) : Prop := Fit o many f ∧ ∀ g, g < f → ¬ Fit o many g
theorem Least.uniq {o : Of} {m f g : Int} (h : Least o m f) (k : Least o m g) : f = g := by
  by_cases c : f < g
  · exact absurd h.1 (k.2 f c)
  · by_cases c2 : g < f
    · exact absurd k.1 (h.2 g c2)
    · omega
def blk (f : Int) (k : Nat) : List Int := (List.range k).map fun (j : Nat) => f + (j : Int)
theorem blk_succ (f : Int) (k : Nat) : blk f (k + 1) = blk f k ++ [f + (k : Int)] := by
  unfold blk
  rw [List.range_succ, List.map_append]
  rfl
theorem mem_blk {f : Int} {k : Nat} {x : Int} : x ∈ blk f k ↔ f ≤ x ∧ x < f + (k : Int) := by
  unfold blk
  rw [List.mem_map]
  constructor
  · rintro ⟨j, hj, rfl⟩
    have := List.mem_range.mp hj
    omega
  · rintro ⟨h1, h2⟩
    exact ⟨(x - f).toNat, List.mem_range.mpr (by omega), by omega⟩
theorem nodup_blk (f : Int) : ∀ k : Nat, (blk f k).Nodup
  | 0 => List.nodup_nil
  | k + 1 => by
    rw [blk_succ, List.nodup_append]
    refine ⟨nodup_blk f k, by simp, fun x hx y hy => ?_⟩
    have h1 := mem_blk.mp hx
    have h2 : y = f + (k : Int) := by simpa using hy
    omega
theorem blk_length (f : Int) (k : Nat) : (blk f k).length = k := by
  unfold blk
  rw [List.length_map, List.length_range]
/-- a block of k numbers from f lent to the desk d -/
def Of.lend (o : Of) (d : Nat) (f : Int) (k : Nat) : Of where
  top := o.top
  st := fun n => if f ≤ n ∧ n < f + (k : Int) then "open" else o.st n
  ho := fun n => if f ≤ n ∧ n < f + (k : Int) then some (d : Int) else o.ho n
  sg := o.sg
  le := o.le.set d ((o.le.getD d []) ++ blk f k)
theorem set_getD {α : Type} [Inhabited α] (l : List (List α)) (d : Nat) : l.set d (l.getD d [] ++ []) = l := by
  rw [List.append_nil]
  refine List.ext_getElem? fun i => ?_
  by_cases c : d = i
  · subst c
    by_cases h : d < l.length
    · rw [List.getElem?_set_self h, List.getD_eq_getElem?_getD, List.getElem?_eq_getElem h]
      rfl
    · rw [List.getElem?_eq_none (by simpa using Nat.le_of_not_lt h), List.getElem?_eq_none (Nat.le_of_not_lt h)]
  · rw [List.getElem?_set_ne c]
theorem lend_zero (o : Of) (d : Nat) (f : Int) : o.lend d f 0 = o := by
  obtain ⟨t, st, ho, sg, le⟩ := o
  unfold Of.lend
  dsimp only
  congr 1
  · funext n
    rw [if_neg (by omega)]
  · funext n
    rw [if_neg (by omega)]
  · exact set_getD le d
theorem fit_lt {o : Of} {m f : Int} {k : Nat} (h : Fit o m f) (hk : (k : Int) < m) : o.st (f + (k : Int)) = "free" ∧ 1 ≤ f + (k : Int) ∧ f + (k : Int) ≤ (o.top : Int) := by
  obtain ⟨h1, h2, h3⟩ := h
  exact ⟨h3 _ (by omega) (by omega), by omega, by omega⟩
theorem wf_lend {o : Of} (w : Wf o) {m f : Int} (h : Fit o m f) {d k : Nat} (hd : d < o.le.length) (hk : (k : Int) ≤ m) : Wf (o.lend d f k) := by
  obtain ⟨h1, h2, h3⟩ := h
  have hg : o.le.getD d [] = o.le[d] := by rw [List.getD_eq_getElem?_getD, List.getElem?_eq_getElem hd]; rfl
  have e0 : o.le[d]? = some o.le[d] := List.getElem?_eq_getElem hd
  have noho : ∀ n, f ≤ n → n < f + (k : Int) → o.ho n = none := fun n a b => w.fre n (h3 n a (by omega))
  have old : ∀ (i : Nat) (ns : List Int), o.le[i]? = some ns → ∀ n ∈ ns, ¬ (f ≤ n ∧ n < f + (k : Int)) := fun i ns e n hn c => by
    have := ((w.own i ns e).2 n hn).2.2
    rw [noho n c.1 c.2] at this
    cases this
  refine ⟨w.t1, w.t400, by show 1 ≤ (o.le.set d _).length; rw [List.length_set]; exact w.d1, by show (o.le.set d _).length ≤ 6; rw [List.length_set]; exact w.d6, by show o.sg.length = (o.le.set d _).length; rw [List.length_set]; exact w.sl, ?_, ?_, ?_⟩
  · intro i ns e
    have e : (o.le.set d ((o.le.getD d []) ++ blk f k))[i]? = some ns := e
    by_cases c : d = i
    · subst c
      rw [List.getElem?_set_self hd] at e
      cases e
      rw [hg]
      obtain ⟨nd, q⟩ := w.own d _ e0
      refine ⟨List.nodup_append.mpr ⟨nd, nodup_blk f k, fun x hx y hy z => ?_⟩, fun n hn => ?_⟩
      · subst z
        exact old d _ e0 x hx (mem_blk.mp hy)
      · rcases List.mem_append.mp hn with z | z
        · obtain ⟨q1, q2, q3⟩ := q n z
          exact ⟨q1, q2, by show (if f ≤ n ∧ n < f + (k : Int) then _ else _) = _; rw [if_neg (old d _ e0 n z)]; exact q3⟩
        · have b := mem_blk.mp z
          exact ⟨by omega, by show n ≤ (o.top : Int); omega, by show (if f ≤ n ∧ n < f + (k : Int) then _ else _) = _; rw [if_pos b]⟩
    · rw [List.getElem?_set_ne c] at e
      obtain ⟨nd, q⟩ := w.own i ns e
      refine ⟨nd, fun n hn => ?_⟩
      obtain ⟨q1, q2, q3⟩ := q n hn
      exact ⟨q1, q2, by show (if f ≤ n ∧ n < f + (k : Int) then _ else _) = _; rw [if_neg (old i ns e n hn)]; exact q3⟩
  · intro n z e
    have e : (if f ≤ n ∧ n < f + (k : Int) then some (d : Int) else o.ho n) = some z := e
    show ∃ ns, 0 ≤ z ∧ (o.le.set d ((o.le.getD d []) ++ blk f k))[z.toNat]? = some ns ∧ n ∈ ns
    by_cases c : f ≤ n ∧ n < f + (k : Int)
    · rw [if_pos c] at e
      cases e
      exact ⟨_, by omega, by rw [Int.toNat_natCast, List.getElem?_set_self hd], List.mem_append_right _ (mem_blk.mpr c)⟩
    · rw [if_neg c] at e
      obtain ⟨ns, h0, e1, hn⟩ := w.hol n z e
      by_cases c2 : d = z.toNat
      · refine ⟨_, h0, by rw [← c2, List.getElem?_set_self hd], List.mem_append_left _ ?_⟩
        rw [hg]
        rw [← c2, e0] at e1
        cases e1
        exact hn
      · exact ⟨ns, h0, by rw [List.getElem?_set_ne c2]; exact e1, hn⟩
  · intro n e
    have e : (if f ≤ n ∧ n < f + (k : Int) then ("open" : Str) else o.st n) = "free" := e
    show (if f ≤ n ∧ n < f + (k : Int) then some (d : Int) else o.ho n) = none
    by_cases c : f ≤ n ∧ n < f + (k : Int)
    · rw [if_pos c] at e
      exact absurd e (by decide +kernel)
    · rw [if_neg c] at e ⊢
      exact w.fre n e
section
variable {P : Program} {w : World} {K : PySem.W.Frag} {mg : Str → Option Value} {base : Heap} {a : Ad} {fd : Fd}
def spFirst (a : Ad) : Sp := fun vs H Q _ => ∃ (F : Fp) (o : Of) (m : Int), vs = [.ref F.p, .int m] ∧ Off a H F o ∧ 1 ≤ m ∧ ((∀ f, ¬ Fit o m f) → ∀ H', Same H H' → Q .non H') ∧ (∀ f, Least o m f → ∀ H', Same H H' → Q (.int f) H')
theorem ok_Office__first_of_free (T : Txt K mg a fd) : FnOk P w K mg base CX0 2 a.Office__first_of_free fd.Office__first_of_free ["self", "many"] (spFirst a) := by
  have G_Office_numbers := ok_Office_numbers (P := P) (w := w) (base := base) T
  refine T.F_Office__first_of_free.ok sc_Office__first_of_free (fun vs H Q E h => ?_) (fun cdv A outer s H vs Q E hr h => ?_)
  · obtain ⟨F, o, m, rfl, _⟩ := h
    rfl
  · obtain ⟨F, o, m, rfl, O, hm, k1, k2⟩ := h
    have hu := hu_of hr
    refine ⟨_, (pss_cons (ps_set (i := 2) sc_Office__first_of_free.nd rfl (Or.inl rfl) pe_int)
    (pss_cons (ps_for PassesOwn.never rfl (pi_list (pe_meth0 (pv 0) T.cl T.m_Office_numbers G_Office_numbers (hr.mono (by decide)) T.b_Office_numbers .nil pass0)) (pg_name (i := 3) sc_Office__first_of_free.nd rfl (Or.inl rfl))
      (pss_cons (ps_set (i := 2) sc_Office__first_of_free.nd rfl (Or.inl rfl) (pe_ifExp (pt_cmpR op_eq (pe_dget hu (pe_fld (pv 0) rfl) (pv 3) (fun _ _ => rfl)) (pe_gs (by rfl) T.g_FREE) (nomark _)) (pe_op op_add (pv 2) pe_int) pe_int))
    (pss_one (ps_if (pt_cmpR op_eq (pv 2) (pv 1) (nomark _)) (pss_one (ps_ret (pe_op op_add (pe_op op_sub (pv 3) (pv 1)) pe_int))) pss_nil))))
    (pss_one (ps_ret pe_non)))), ?_⟩
    refine ⟨_, rfl, F.p, F.dx, _, rfl, O.ob, ofl_no F (by decide +kernel) (by decide +kernel) (by decide +kernel) (by decide +kernel), F, o, rfl, O, fun p hp => ?_⟩
    have s0 : Same H (upd H p (.lst ((List.range o.top).map fun (i : Nat) => V.int ((i : Int) + 1)))) := same_upd hp
    refine ⟨p, rfl, ⟨_, SqL.of upd_same⟩, for_list (K := K) (a := p) (xs := (List.range o.top).map fun (i : Nat) => V.int ((i : Int) + 1))
      (fun i σ H' => ∃ (run : Int) (v : Option V), σ = [some (.ref F.p), some (.int m), some (.int run), v] ∧ Same (upd H p (.lst ((List.range o.top).map fun (i : Nat) => V.int ((i : Int) + 1)))) H' ∧ 0 ≤ run ∧ run < m ∧ run ≤ (i : Int) ∧
        (∀ n, (i : Int) - run < n → n ≤ (i : Int) → o.st n = "free") ∧ (run = (i : Int) ∨ o.st ((i : Int) - run) ≠ "free") ∧ ∀ f, Fit o m f → (i : Int) < f + m - 1)
      ⟨0, none, rfl, Same.refl _, Int.le_refl _, by omega, Int.le_refl _, fun n h1 h2 => by omega, .inl rfl, fun f hf => by have := hf.1; omega⟩
      (fun i σ H' _ ⟨_, _, _, s2, _⟩ => s2.seq (SqL.of upd_same)) ?_ ?_⟩
    · rintro i x σ H' hi ⟨run, v, rfl, s2, r0, r1, r2, r3, r4, r5⟩
      have O' : Off a H' F o := O.stay fun c _ u e => s2 c u (s0 c u e)
      obtain ⟨hil, rfl⟩ : i < o.top ∧ x = V.int ((i : Int) + 1) := by
        rw [List.getElem?_map] at hi
        cases e : (List.range o.top)[i]? with
        | none => rw [e] at hi; cases hi
        | some j =>
          rw [e] at hi
          have hj := List.getElem?_eq_some_iff.mp e
          obtain ⟨q1, q2⟩ := hj
          rw [List.length_range] at q1
          rw [List.getElem_range] at q2
          subst q2
          exact ⟨q1, (Option.some.inj hi).symm⟩
      have hb : 1 ≤ (i : Int) + 1 ∧ (i : Int) + 1 ≤ (o.top : Int) := by omega
      refine rd_state T O' rfl rfl hb ?_
      refine ⟨rfl, _, rfl, ?_⟩
      by_cases c : o.st ((i : Int) + 1) = "free"
      · rw [deqT c]
        refine iteT ?_
        refine ⟨_, rfl, _, _, rfl, rfl, ?_⟩
        refine ⟨_, rfl, _, rfl, rfl, _, rfl, ?_⟩
        by_cases c2 : run + 1 = m
        · rw [decide_eq_true (show V.int (run + 1) = V.int m by rw [c2])]
          refine iteT ?_
          refine ⟨_, rfl, _, rfl, _, _, rfl, rfl, _, _, rfl, rfl, ?_⟩
          refine k2 _ ⟨⟨by omega, by omega, fun n h1 h2 => ?_⟩, fun g hg hf => ?_⟩ H' (s0.trans s2)
          · by_cases c3 : n = (i : Int) + 1
            · rw [c3]
              exact c
            · exact r3 n (by omega) (by omega)
          · have := r5 g hf
            omega
        · rw [decide_eq_false (show ¬ V.int (run + 1) = V.int m from fun z => c2 (by injection z))]
          refine iteF ?_
          refine ⟨run + 1, _, rfl, s2, by omega, by omega, by omega, fun n h1 h2 => ?_, ?_, fun f hf => ?_⟩
          · by_cases c3 : n = (i : Int) + 1
            · rw [c3]
              exact c
            · exact r3 n (by omega) (by omega)
          · rcases r4 with z | z
            · exact .inl (by omega)
            · refine .inr ?_
              rw [show ((i + 1 : Nat) : Int) - (run + 1) = (i : Int) - run by omega]
              exact z
          · have h5 := r5 f hf
            obtain ⟨f1, f2, f3⟩ := hf
            by_cases c4 : f + m - 1 = ((i + 1 : Nat) : Int)
            · rcases r4 with z | z
              · omega
              · exact absurd (f3 ((i : Int) - run) (by omega) (by omega)) z
            · omega
      · rw [deqF c]
        refine iteF ?_
        refine ⟨_, rfl, _, rfl, rfl, _, rfl, ?_⟩
        rw [decide_eq_false (show ¬ V.int 0 = V.int m from fun z => by injection z with z; omega)]
        refine iteF ?_
        refine ⟨0, _, rfl, s2, Int.le_refl _, by omega, by omega, fun n h1 h2 => by omega, .inr ?_, fun f hf => ?_⟩
        · rw [show ((i + 1 : Nat) : Int) - 0 = (i : Int) + 1 by omega]
          exact c
        · have h5 := r5 f hf
          obtain ⟨f1, f2, f3⟩ := hf
          by_cases c4 : f + m - 1 = ((i + 1 : Nat) : Int)
          · exact absurd (f3 ((i : Int) + 1) (by omega) (by omega)) c
          · omega
    · rintro σ H' ⟨run, v, rfl, s2, r0, r1, r2, r3, r4, r5⟩
      refine k1 (fun f hf => ?_) H' (s0.trans s2)
      have h5 := r5 f hf
      have h2 := hf.2.1
      rw [List.length_map, List.length_range] at h5
      omega
end
end Nu
namespace Nu
open PySem PySem.Spec PyProof.Rows L2
theorem lend_succ_le (o : Of) (d : Nat) (f : Int) (k : Nat) (hd : d < o.le.length) : (o.lend d f (k + 1)).le = ((o.lend d f k).le).set d ((((o.lend d f k).le).getD d []) ++ [f + (k : Int)]) := by
  show o.le.set d _ = (o.le.set d _).set d _
  rw [List.set_set]
  congr 1
  have e : (o.le.set d ((o.le.getD d []) ++ blk f k)).getD d [] = (o.le.getD d []) ++ blk f k := by
    rw [List.getD_eq_getElem?_getD, List.getElem?_set_self hd]
    rfl
  show _ = (o.le.set d ((o.le.getD d []) ++ blk f k)).getD d [] ++ _
  rw [e, blk_succ, List.append_assoc]
theorem of_eq {o o' : Of} (h1 : o.top = o'.top) (h2 : o.st = o'.st) (h3 : o.ho = o'.ho) (h4 : o.sg = o'.sg) (h5 : o.le = o'.le) : o = o' := by
  obtain ⟨t, st, ho, sg, le⟩ := o
  obtain ⟨t', st', ho', sg', le'⟩ := o'
  dsimp only at h1 h2 h3 h4 h5
  subst h1 h2 h3 h4 h5
  rfl
section
variable {P : Program} {w : World} {K : PySem.W.Frag} {mg : Str → Option Value} {base : Heap} {a : Ad} {fd : Fd}
/-- no attribute of an instance bears a method's name -/
theorem ofl_m (F : Fp) {m : Str} (h : (decide (m = "_lent") || decide (m = "_stages") || decide (m = "_holders") || decide (m = "_states")) = false := by decide +kernel) : (ofl F).lookup m = none := by
  simp only [Bool.or_eq_false_iff, decide_eq_false_iff_not] at h
  obtain ⟨⟨⟨h1, h2⟩, h3⟩, h4⟩ := h
  exact ofl_no F h1 h2 h3 h4
/-- what the methods of a desk that goes on ask ahead: NoDesk, Stopped -/
def Ahead (a : Ad) (H : Hp) (o : Of) (d : Int) (E : XK) (go : Nat → Prop) : Prop :=
  (¬ (0 ≤ d ∧ d < (o.sg.length : Int)) → E (.ref a.NoDesk) none H) ∧ ∀ (i : Nat) (z : Str), d = (i : Int) → o.sg[i]? = some z → (z ≠ "going" → E (.ref a.Stopped) none H) ∧ (z = "going" → go i)
def spLend (a : Ad) : Sp := fun vs H Q E => ∃ (F : Fp) (o : Of) (d m : Int), vs = [.ref F.p, .int d, .int m] ∧ Off a H F o ∧ Wf o ∧ d.natAbs.log2 < 1920 ∧ m.natAbs.log2 < 1920 ∧
  Ahead a H o d E fun i => (m < 1 → E (.ref a.NoCount) none H) ∧ (1 ≤ m → (∀ f, ¬ Fit o m f) → ∀ H', Same H H' → E (.ref a.NoRoom) none H') ∧
    (1 ≤ m → ∀ f, Least o m f → ∀ H' t, Keep F.foot H H' → H t = none → t ∉ F.foot → Off a H' F (o.lend i f m.toNat) → H' t = some (.tup [.int f, .int (f + m - 1)]) → Q (.ref t) H')
theorem ok_Office_lend (T : Txt K mg a fd) : FnOk P w K mg base (L2.CX P w) 3 a.Office_lend fd.Office_lend ["self", "desk", "many"] (spLend a) := by
  have G_Office__check_going := ok_Office__check_going (P := P) (w := w) (base := base) T
  have G_Office__first_of_free := ok_Office__first_of_free (P := P) (w := w) (base := base) T
  refine T.F_Office_lend.okX sc_Office_lend (fun vs H Q E h => ?_) (fun cdv A outer s H vs Q E hr h => ?_)
  · obtain ⟨F, o, d, m, rfl, _⟩ := h
    rfl
  · obtain ⟨F, o, d, m, rfl, O, W, hd, hm, k1, k2⟩ := h
    have hu := hu_of hr
    refine ⟨_, (pss_cons (ps_expr (pe_meth (pv 0) T.cl T.m_Office__check_going G_Office__check_going (hr.mono (by decide)) T.b_Office__check_going .nil passU (pa_cons (pv 1) pa_nil)))
    (pss_cons (ps_if (pt_cmpR op_lt (pv 2) pe_int (nomark _)) (pss_one (ps_raise rfl takesU (pmk_ownA PySem.F.excBase_ValueError T.x_NoCount.x T.x_NoCount.g T.x_NoCount.k (raises_own T.x_NoCount.b T.x_NoCount.t) (by rfl) (pa_cons (pe_joined (.cons pe_str (.cons (pe_fmt (pv 2)) (.cons pe_str PJ.nil)))) pa_nil)))) pss_nil)
    (pss_cons (ps_set (i := 3) sc_Office_lend.nd rfl (Or.inl rfl) (pe_meth (pv 0) T.cl T.m_Office__first_of_free G_Office__first_of_free (hr.mono (by decide)) T.b_Office__first_of_free .nil pass0 (pa_cons (pv 2) pa_nil)))
    (pss_cons (ps_if (pt_cmpR op_isN (pv 3) pe_non (nomark _)) (pss_one (ps_raise rfl takesU (pmk_ownA PySem.F.excBase_ValueError T.x_NoRoom.x T.x_NoRoom.g T.x_NoRoom.k (raises_own T.x_NoRoom.b T.x_NoRoom.t) (by rfl) (pa_cons (pe_joined (.cons pe_str (.cons (pe_fmt (pv 2)) (.cons pe_str PJ.nil)))) pa_nil)))) pss_nil)
    (pss_cons (ps_set (i := 4) sc_Office_lend.nd rfl (Or.inl rfl) (pe_op op_sub (pe_op op_add (pv 3) (pv 2)) pe_int))
    (pss_cons (ps_for passesU rfl (pi_range2 (by rfl) T.n_range (pa_cons (pv 3) (pa_cons (pe_op op_add (pv 4) pe_int) pa_nil))) (pg_name (i := 5) sc_Office_lend.nd rfl (Or.inl rfl))
      (pss_cons (ps_dput hu (pe_fld (pv 0) rfl) (pv 5) (pe_gs (by rfl) T.g_OPEN) rfl)
    (pss_cons (ps_dput hu (pe_fld (pv 0) rfl) (pv 5) (pv 1) rfl)
    (pss_one (ps_expr (pe_bm PySem.F.plainAttrs_list PySem.F.slot_list_append PySem.F.type_list_append mt_append (pe_ix ix_list (pe_fld (pv 0) rfl) (pv 1) (fun _ _ => rfl)) (pa_cons (pv 5) pa_nil)))))))
    (pss_one (ps_ret (pe_tup (pa_cons (pv 3) (pa_cons (pv 4) pa_nil))))))))))), ?_⟩
    refine ⟨_, rfl, F.p, F.dx, _, rfl, O.ob, ofl_m F, _, rfl, F, o, d, rfl, O, hd, k1, fun i z e1 e2 => ⟨fun c => (k2 i z e1 e2).1 c, fun c => ?_⟩⟩
    obtain ⟨k3, k4, k5⟩ := (k2 i z e1 e2).2 c
    subst e1
    have hi : i < o.le.length := by
      rw [← W.sl]
      exact (List.getElem?_eq_some_iff.mp e2).1
    refine ⟨_, rfl, _, _, rfl, rfl, _, rfl, ?_⟩
    by_cases c1 : m < 1
    · rw [decide_eq_true c1]
      refine iteT ?_
      exact js_s (b := 0) (Nat.le_refl _) (by decide +kernel) (by omega) fun _ ha => js_f rfl hm ha (by omega) fun _ ha => js_s ha (by decide +kernel) (by omega) fun _ _ => ⟨one_le _, k3 c1⟩
    · rw [decide_eq_false c1]
      refine iteF ?_
      have m1 : 1 ≤ m := by omega
      refine ⟨_, rfl, F.p, F.dx, _, rfl, O.ob, ofl_m F, _, rfl, F, o, m, rfl, O, m1, fun hf H1 s1 => ?_, fun f hf H1 s1 => ?_⟩
      · refine ⟨_, rfl, rfl, _, rfl, ?_⟩
        refine iteT ?_
        exact js_s (b := 0) (Nat.le_refl _) (by decide +kernel) (by omega) fun _ ha => js_f rfl hm ha (by omega) fun _ ha => js_s ha (by decide +kernel) (by omega) fun _ _ => ⟨one_le _, k4 m1 hf H1 s1⟩
      · refine ⟨_, rfl, rfl, _, rfl, ?_⟩
        refine iteF ?_
        refine ⟨_, rfl, _, rfl, _, _, rfl, rfl, _, _, rfl, rfl, ?_⟩
        have O1 : Off a H1 F o := O.stay fun c _ u e => s1 c u e
        obtain ⟨⟨f1, f2, f3⟩, f4⟩ := id hf
        have t4 := W.t400
        refine ⟨_, rfl, _, rfl, _, _, rfl, rfl, f, f + m - 1 + 1, rfl, ⟨by omega, by omega, by omega, by omega⟩, ?_⟩
        have en : (f + m - 1 + 1 - f).toNat = m.toNat := by congr 1; omega
        rw [en]
        refine for_range (lo := f) (n := m.toNat) (fun j σ H' => ∃ v : Option V, σ = [some (.ref F.p), some (.int (i : Int)), some (.int m), some (.int f), some (.int (f + m - 1)), v] ∧ Keep F.foot H1 H' ∧ Off a H' F (o.lend i f j))
          ⟨none, rfl, Keep.refl _ _, by rw [lend_zero]; exact O1⟩ ?_ ?_
        · rintro j σ H2 hj ⟨v, rfl, kp, O2⟩
          have hjm : (j : Int) < m := by omega
          obtain ⟨q1, q2, q3⟩ := fit_lt hf.1 hjm
          have W2 := wf_lend W hf.1 hi (k := j) (by omega)
          -- self._states[number] = OPEN
          refine ⟨_, rfl, F.p, a.C, F.dx, _, _, rfl, O2.ob, T.cl, T.na_states, ofl_states F, ?_⟩
          refine ⟨_, rfl, F.dS, _, rfl, DPut.k (k := Sum.inl (f + (j : Int))) O2.st (small1000 (by rw [stK_length]; show o.top ≤ 1000; omega)), ?_⟩
          rw [putK_stK _ _ _ _ (show 1 ≤ f + (j : Int) ∧ f + (j : Int) ≤ ((o.lend i f j).top : Int) from ⟨q2, q3⟩)]
          have O3 := O2.setSt (fun n => if n = f + (j : Int) then "open" else (o.lend i f j).st n)
          obtain ⟨hk, h3, hh⟩ := O3.ho
          have hkl : hk.length ≤ 400 := by
            obtain ⟨hk', h3', hh'⟩ := O2.ho
            have e3 : (upd H2 F.dS (.dK (stK (o.lend i f j).top (fun n => if n = f + (j : Int) then "open" else (o.lend i f j).st n)))) F.dH = H2 F.dH := upd_ne O2.ne.dS_dH.symm
            rw [e3, h3'] at h3
            cases h3
            exact hh'.le W2
          -- self._holders[number] = desk
          refine ⟨_, rfl, ?_⟩
          refine rd_holders T O3 rfl ?_
          refine ⟨_, rfl, F.dH, _, rfl, DPut.k (k := Sum.inl (f + (j : Int))) h3 (small1000 (by omega)), ?_⟩
          have noho : (o.lend i f j).ho (f + (j : Int)) = none := by
            show (if f ≤ f + (j : Int) ∧ f + (j : Int) < f + (j : Int) then _ else o.ho _) = none
            rw [if_neg (by omega)]
            exact W.fre _ q1
          have O4 := O3.setHo _ (hh.put (i : Int) noho)
          -- self._lent[desk].append(number)
          have hil : i < F.ls.length := by
            rw [O2.ll]
            show i < (o.le.set i _).length
            rw [List.length_set]
            exact hi
          have hl1 : F.ls[i]? = some F.ls[i] := List.getElem?_eq_getElem hil
          have hns : (o.lend i f j).le[i]? = some (o.le.getD i [] ++ blk f j) := List.getElem?_set_self hi
          have hl := O4.each i _ _ hl1 hns
          have len := Wf.len400 W2 hns
          refine rd_lent1 T O4 rfl rfl hl1 ?_
          refine ⟨.inl ⟨rfl, _, SqL.of hl⟩, _, rfl, _, _, _, rfl, rfl, hl, small1000 (by rw [List.length_map]; omega), ?_⟩
          have em : (o.le.getD i [] ++ blk f j).map V.int ++ [V.int (f + (j : Int))] = ((o.le.getD i [] ++ blk f j) ++ [f + (j : Int)]).map V.int := by
            simp only [List.map_append, List.map_cons, List.map_nil]
          rw [em]
          have O5 := O4.setLe hl1 ((o.le.getD i [] ++ blk f j) ++ [f + (j : Int)])
          refine ⟨_, rfl, (kp.trans (keep_upd (.inl (foot_dS F)))).trans ((keep_upd (.inl (foot_dH F))).trans (keep_upd (.inl (foot_ls hl1)))), ?_⟩
          have eo : o.lend i f (j + 1) = { ({ ({ (o.lend i f j) with st := fun n => if n = f + (j : Int) then "open" else (o.lend i f j).st n } : Of) with ho := fun m => if m = f + (j : Int) then some (i : Int) else (o.lend i f j).ho m } : Of) with le := ((o.lend i f j).le).set i ((o.le.getD i [] ++ blk f j) ++ [f + (j : Int)]) } := by
            refine of_eq rfl (funext fun n => ?_) (funext fun n => ?_) rfl ?_
            · show (if f ≤ n ∧ n < f + ((j + 1 : Nat) : Int) then ("open" : Str) else o.st n) = if n = f + (j : Int) then ("open" : Str) else if f ≤ n ∧ n < f + (j : Int) then ("open" : Str) else o.st n
              by_cases c : n = f + (j : Int)
              · rw [if_pos c, if_pos (by omega)]
              · rw [if_neg c]
                by_cases c2 : f ≤ n ∧ n < f + (j : Int)
                · rw [if_pos c2, if_pos (by omega)]
                · rw [if_neg c2, if_neg (by omega)]
            · show (if f ≤ n ∧ n < f + ((j + 1 : Nat) : Int) then some (i : Int) else o.ho n) = if n = f + (j : Int) then some (i : Int) else if f ≤ n ∧ n < f + (j : Int) then some (i : Int) else o.ho n
              by_cases c : n = f + (j : Int)
              · rw [if_pos c, if_pos (by omega)]
              · rw [if_neg c]
                by_cases c2 : f ≤ n ∧ n < f + (j : Int)
                · rw [if_pos c2, if_pos (by omega)]
                · rw [if_neg c2, if_neg (by omega)]
            · rw [lend_succ_le o i f j hi]
              show _ = ((o.lend i f j).le).set i ((o.le.getD i [] ++ blk f j) ++ [f + (j : Int)])
              congr 2
              rw [List.getD_eq_getElem?_getD, hns]
              rfl
          rw [eo]
          exact O5
        · rintro σ H2 ⟨v, rfl, kp, O2⟩
          refine ⟨_, rfl, _, rfl, (by show 2 ≤ sizeLine; decide), fun t ht => ?_⟩
          have s12 : Keep F.foot H H2 := (Keep.same s1).trans kp
          have tn : t ∉ F.foot := fun z => by
            have hp : ∀ c ∈ F.foot, ∃ u, H2 c = some u := by
              intro c hc
              unfold Fp.foot at hc
              simp only [List.mem_cons] at hc
              rcases hc with rfl | rfl | rfl | rfl | rfl | hc
              · exact ⟨_, O2.ob⟩
              · exact ⟨_, O2.st⟩
              · obtain ⟨hk, h3, _⟩ := O2.ho
                exact ⟨_, h3⟩
              · exact ⟨_, O2.sg⟩
              · exact ⟨_, O2.le⟩
              · obtain ⟨ix, hix, rfl⟩ := List.getElem_of_mem hc
                have hix2 : ix < (o.lend i f m.toNat).le.length := by rw [← O2.ll]; exact hix
                exact ⟨_, O2.each ix _ _ (List.getElem?_eq_getElem hix) (List.getElem?_eq_getElem hix2)⟩
            obtain ⟨u, hu'⟩ := hp t z
            rw [ht] at hu'
            cases hu'
          have th : H t = none := by
            cases e : H t with
            | none => rfl
            | some u =>
              have := s12 t u e tn
              rw [ht] at this
              cases this
          exact k5 m1 f hf _ t (s12.trans (keep_upd (.inr ht))) th tn (O2.stay fun c hc u e => by rw [upd_ne (fun z => tn (by rw [← z]; exact hc))]; exact e) upd_same
end
end Nu
namespace Nu
open PySem PySem.Spec PyProof.Rows L2
/-- numbers let go one after another -/
def Of.lets (o : Of) (l : List (Int × Str)) : Of := l.foldl (fun o p => o.letgo p.1 p.2) o
theorem lets_snoc (o : Of) (l : List (Int × Str)) (n : Int) (z : Str) : o.lets (l ++ [(n, z)]) = (o.lets l).letgo n z := by
  unfold Of.lets
  rw [List.foldl_append]
  rfl
theorem lets_top (l : List (Int × Str)) : ∀ o : Of, (o.lets l).top = o.top ∧ (o.lets l).sg = o.sg ∧ (o.lets l).le = o.le := by
  induction l with
  | nil => intro o; exact ⟨rfl, rfl, rfl⟩
  | cons p r ih => intro o; exact ih (o.letgo p.1 p.2)
theorem lets_ho (l : List (Int × Str)) : ∀ (o : Of) (n : Int), (o.lets l).ho n = if n ∈ l.map (·.1) then none else o.ho n := by
  induction l with
  | nil => intro o n; rw [if_neg (by simp)]; rfl
  | cons p r ih =>
    intro o n
    show ((o.letgo p.1 p.2).lets r).ho n = _
    rw [ih]
    show (if n ∈ r.map (·.1) then none else if n = p.1 then none else o.ho n) = _
    by_cases c : n ∈ r.map (·.1)
    · rw [if_pos c, if_pos (by simp only [List.map_cons, List.mem_cons]; exact .inr c)]
    · rw [if_neg c]
      by_cases c2 : n = p.1
      · rw [if_pos c2, if_pos (by simp only [List.map_cons, List.mem_cons]; exact .inl c2)]
      · rw [if_neg c2, if_neg (by simp only [List.map_cons, List.mem_cons, not_or]; exact ⟨c2, c⟩)]
theorem lets_st_out (l : List (Int × Str)) : ∀ (o : Of) (n : Int), n ∉ l.map (·.1) → (o.lets l).st n = o.st n := by
  induction l with
  | nil => intro o n _; rfl
  | cons p r ih =>
    intro o n h
    simp only [List.map_cons, List.mem_cons, not_or] at h
    show ((o.letgo p.1 p.2).lets r).st n = _
    rw [ih _ n h.2]
    show (if n = p.1 then p.2 else o.st n) = _
    rw [if_neg h.1]
theorem lets_st_in (l : List (Int × Str)) : ∀ (o : Of) (n : Int) (z : Str), (l.map (·.1)).Nodup → (n, z) ∈ l → (o.lets l).st n = z := by
  induction l with
  | nil => intro o n z _ h; cases h
  | cons p r ih =>
    intro o n z nd h
    obtain ⟨h1, h2⟩ := List.nodup_cons.mp nd
    show ((o.letgo p.1 p.2).lets r).st n = z
    rcases List.mem_cons.mp h with e | e
    · subst e
      rw [lets_st_out r _ n h1]
      show (if n = n then z else _) = z
      rw [if_pos rfl]
    · exact ih _ n z h2 e
/-- behind a report of a desk's first numbers (ws: what came of them) -/
def Of.report (o : Of) (d : Nat) (ws : List Str) : Of :=
  { o.lets (((o.le.getD d []).take ws.length).zip ws) with le := o.le.set d ((o.le.getD d []).drop ws.length) }
def Of.back (o : Of) (d : Nat) : Of :=
  { o.lets ((o.le.getD d []).map fun n => (n, "free")) with le := o.le.set d [] }
/-- numbers of a desk let go: the invariant -/
theorem wf_lets {o : Of} (w : Wf o) {d : Nat} {ns : List Int} (hd : o.le[d]? = some ns) (l : List (Int × Str)) (rest : List Int) (hl : ∀ n, n ∈ ns ↔ n ∈ l.map (·.1) ∨ n ∈ rest) (nr : rest.Nodup) (dj : ∀ n ∈ rest, n ∉ l.map (·.1)) :
    Wf { o.lets l with le := o.le.set d rest } := by
  obtain ⟨e1, e2, e3⟩ := lets_top l o
  have hdl : d < o.le.length := (List.getElem?_eq_some_iff.mp hd).1
  have notin : ∀ (i : Nat) (ms : List Int), i ≠ d → o.le[i]? = some ms → ∀ n ∈ ms, n ∉ ns := fun i ms hi e n hn hn' => by
    have h1 := ((w.own i ms e).2 n hn).2.2
    have h2 := ((w.own d ns hd).2 n hn').2.2
    rw [h1] at h2
    exact hi (by have := Option.some.inj h2; omega)
  refine ⟨by show 1 ≤ (o.lets l).top; rw [e1]; exact w.t1, by show (o.lets l).top ≤ 400; rw [e1]; exact w.t400, by show 1 ≤ (o.le.set d rest).length; rw [List.length_set]; exact w.d1, by show (o.le.set d rest).length ≤ 6; rw [List.length_set]; exact w.d6, by show (o.lets l).sg.length = (o.le.set d rest).length; rw [List.length_set, e2]; exact w.sl, ?_, ?_, ?_⟩
  · intro i ms e
    have e : (o.le.set d rest)[i]? = some ms := e
    show ms.Nodup ∧ ∀ n ∈ ms, 1 ≤ n ∧ n ≤ ((o.lets l).top : Int) ∧ (o.lets l).ho n = some (i : Int)
    rw [e1]
    by_cases c : d = i
    · subst c
      rw [List.getElem?_set_self hdl] at e
      cases e
      refine ⟨nr, fun n hn => ?_⟩
      obtain ⟨q1, q2, q3⟩ := (w.own d ns hd).2 n ((hl n).mpr (.inr hn))
      exact ⟨q1, q2, by rw [lets_ho, if_neg (dj n hn)]; exact q3⟩
    · rw [List.getElem?_set_ne c] at e
      obtain ⟨nd, q⟩ := w.own i ms e
      refine ⟨nd, fun n hn => ?_⟩
      obtain ⟨q1, q2, q3⟩ := q n hn
      exact ⟨q1, q2, by rw [lets_ho, if_neg (fun z => notin i ms (Ne.symm c) e n hn ((hl n).mpr (.inl z)))]; exact q3⟩
  · intro n z e
    have e : (o.lets l).ho n = some z := e
    rw [lets_ho] at e
    by_cases c : n ∈ l.map (·.1)
    · rw [if_pos c] at e
      cases e
    · rw [if_neg c] at e
      obtain ⟨ms, h0, h1, h2⟩ := w.hol n z e
      show ∃ ns, 0 ≤ z ∧ (o.le.set d rest)[z.toNat]? = some ns ∧ n ∈ ns
      by_cases c2 : d = z.toNat
      · refine ⟨rest, h0, by rw [← c2, List.getElem?_set_self hdl], ?_⟩
        rw [← c2, hd] at h1
        cases h1
        exact ((hl n).mp h2).resolve_left c
      · exact ⟨ms, h0, by rw [List.getElem?_set_ne c2]; exact h1, h2⟩
  · intro n e
    have e : (o.lets l).st n = "free" := e
    show (o.lets l).ho n = none
    rw [lets_ho]
    by_cases c : n ∈ l.map (·.1)
    · rw [if_pos c]
    · rw [if_neg c]
      rw [lets_st_out _ _ _ c] at e
      exact w.fre n e
theorem zip_keys (xs : List Int) (ws : List Str) (h : xs.length = ws.length) : (xs.zip ws).map (·.1) = xs := by
  induction xs generalizing ws with
  | nil => rfl
  | cons x r ih =>
    cases ws with
    | nil => cases h
    | cons y s => 
      show x :: (r.zip s).map (·.1) = x :: r
      rw [ih s (by simpa using h)]
theorem wf_report {o : Of} (w : Wf o) {d : Nat} {ns : List Int} (hd : o.le[d]? = some ns) (ws : List Str) (hl : ws.length ≤ ns.length) : Wf (o.report d ws) := by
  have hg : o.le.getD d [] = ns := by rw [List.getD_eq_getElem?_getD, hd]; rfl
  obtain ⟨nd, _⟩ := w.own d ns hd
  have ek : ((ns.take ws.length).zip ws).map (·.1) = ns.take ws.length := zip_keys _ _ (by rw [List.length_take]; omega)
  have nd2 : (ns.take ws.length ++ ns.drop ws.length).Nodup := by rw [List.take_append_drop]; exact nd
  obtain ⟨_, n2, n3⟩ := List.nodup_append.mp nd2
  unfold Of.report
  rw [hg]
  refine wf_lets w hd _ _ (fun n => ?_) n2 (fun n hn => ?_)
  · rw [ek, ← List.mem_append, List.take_append_drop]
  · rw [ek]
    exact fun z => n3 n z n hn rfl
theorem wf_back {o : Of} (w : Wf o) {d : Nat} {ns : List Int} (hd : o.le[d]? = some ns) : Wf (o.back d) := by
  have hg : o.le.getD d [] = ns := by rw [List.getD_eq_getElem?_getD, hd]; rfl
  have ek : (ns.map fun n => (n, ("free" : Str))).map (·.1) = ns := by rw [List.map_map]; exact List.map_id' ns
  unfold Of.back
  rw [hg]
  refine wf_lets w hd _ _ (fun n => ?_) List.nodup_nil (fun n hn => by cases hn)
  rw [ek]
  simp
end Nu
namespace Nu
open PySem PySem.Spec PyProof.Rows L2
theorem cut_to (xs : List V) (k : Nat) : cutV xs none (some (k : Int)) = xs.take k := by
  unfold cutV
  simp only [HT.sIx]
  by_cases c : k ≤ xs.length
  · have e : ¬ ((k : Int) < 0) := by omega
    simp [e, List.take_eq_take_iff]
    try omega
  · have e : ¬ ((k : Int) < 0) := by omega
    simp [e, List.take_eq_take_iff]
    try omega
theorem cut_from (xs : List V) (k : Nat) (h : k ≤ xs.length) : cutV xs (some (k : Int)) none = xs.drop k := by
  unfold cutV
  simp only [HT.sIx]
  have e : ¬ ((k : Int) < 0) := by omega
  simp [e]
  have e2 : min k xs.length = k := Nat.min_eq_left h
  first
    | (rw [e2]; exact List.take_of_length_le (by rw [List.length_drop]; omega))
    | (simp [e2])
theorem take_snoc {α : Type} {l : List α} {i : Nat} {x : α} (h : l[i]? = some x) : l.take (i + 1) = l.take i ++ [x] := by
  rw [List.take_add_one, h]
  rfl
theorem le_at {o : Of} {d : Nat} {ns : List Int} (h : o.le[d]? = some ns) : o.le.getD d [] = ns := by rw [List.getD_eq_getElem?_getD, h]; rfl
theorem Off.has {a : Ad} {H : Hp} {F : Fp} {o : Of} (O : Off a H F o) : ∀ c ∈ F.foot, ∃ u, H c = some u := by
  intro c hc
  unfold Fp.foot at hc
  simp only [List.mem_cons] at hc
  rcases hc with rfl | rfl | rfl | rfl | rfl | hc
  · exact ⟨_, O.ob⟩
  · exact ⟨_, O.st⟩
  · obtain ⟨hk, h3, _⟩ := O.ho
    exact ⟨_, h3⟩
  · exact ⟨_, O.sg⟩
  · exact ⟨_, O.le⟩
  · obtain ⟨ix, hix, rfl⟩ := List.getElem_of_mem hc
    have hix2 : ix < o.le.length := by rw [← O.ll]; exact hix
    exact ⟨_, O.each ix _ _ (List.getElem?_eq_getElem hix) (List.getElem?_eq_getElem hix2)⟩
theorem Off.new {a : Ad} {H : Hp} {F : Fp} {o : Of} (O : Off a H F o) {t : Addr} (ht : H t = none) : t ∉ F.foot := fun z => by
  obtain ⟨u, e⟩ := O.has t z
  rw [ht] at e
  cases e
theorem Keep.free {F : List Addr} {H H' : Hp} (k : Keep F H H') {t : Addr} (h : H' t = none) (hn : t ∉ F) : H t = none := by
  cases e : H t with
  | none => rfl
  | some u =>
    have := k t u e hn
    rw [h] at this
    cases this
/-- the heap behind a method: all else as it was; the office's own objects are the old ones or new ones -/
structure Beh (a : Ad) (H H' : Hp) (F F' : Fp) (o' : Of) : Prop where
  kp : Keep F.foot H H'
  ff : ∀ c ∈ F'.foot, c ∈ F.foot ∨ H c = none
  pp : F'.p = F.p
  of : Off a H' F' o'
theorem mem_foot_set {F : Fp} {d : Nat} {r c : Addr} (h : c ∈ ({ F with ls := F.ls.set d r } : Fp).foot) : c ∈ F.foot ∨ c = r := by
  unfold Fp.foot at h ⊢
  simp only [List.mem_cons] at h ⊢
  rcases h with h | h | h | h | h | h
  · exact .inl (.inl h)
  · exact .inl (.inr (.inl h))
  · exact .inl (.inr (.inr (.inl h)))
  · exact .inl (.inr (.inr (.inr (.inl h))))
  · exact .inl (.inr (.inr (.inr (.inr (.inl h)))))
  · rcases List.mem_or_eq_of_mem_set h with q | q
    · exact .inl (.inr (.inr (.inr (.inr (.inr q)))))
    · exact .inr q
/-- self._lent[desk] = a new list r -/
theorem Beh.newLe {a : Ad} {H0 H : Hp} {F : Fp} {o : Of} {d : Nat} {r : Addr} (O : Off a H F o) (k : Keep F.foot H0 H) (hr : H r = none) (hd : d < F.ls.length) (ns' : List Int) :
    Beh a H0 (upd (upd H r (.lst (ns'.map V.int))) F.aL (.lst ((F.ls.set d r).map V.ref))) F { F with ls := F.ls.set d r } { o with le := o.le.set d ns' } := by
  have hn := O.new hr
  have O1 : Off a (upd H r (.lst (ns'.map V.int))) F o := O.stay fun c hc u e => by rw [upd_ne (fun z => hn (by rw [← z]; exact hc))]; exact e
  refine ⟨(k.trans (keep_upd (.inr hr))).trans (keep_upd (.inl (foot_aL F))), fun c hc => ?_, rfl, O1.newLe hd upd_same hn⟩
  rcases mem_foot_set hc with q | q
  · exact .inl q
  · rw [q]
    exact .inr (k.free hr hn)
theorem ixN_nat {n i : Nat} (h : i < n) : ixN n (i : Int) = some i := by
  unfold ixN
  rw [if_pos (by omega), if_pos (by omega)]
  rfl
section
variable {P : Program} {w : World} {K : PySem.W.Frag} {mg : Str → Option Value} {base : Heap} {a : Ad} {fd : Fd}
/-- self._lent[desk] = value -/
theorem rd_put {H : Hp} {F : Fp} {o : Of} {σ : L2.St} {i j d : Nat} {v : V} {Q : L2.St → Hp → Prop} (T : Txt K mg a fd) (O : Off a H F o) (h0 : σ[i]? = some (some (.ref F.p))) (h1 : σ[j]? = some (some (.int (d : Int)))) (hd : d < F.ls.length)
    (h : Q σ (upd H F.aL (.lst ((F.ls.map V.ref).set d v)))) : gSub (tFld K (tVar i) "_lent") (tVar j) rSetL v σ H Q :=
  ⟨_, h0, F.p, a.C, F.dx, _, _, rfl, O.ob, T.cl, T.na_lent, ofl_lent F, _, h1, F.aL, _, _, d, rfl, rfl, O.le, ixN_nat (by rw [List.length_map]; exact hd), h⟩
def Words (ws : List Str) : Prop := ∀ x ∈ ws, x = "paper" ∨ x = "spoilt"
def spReport (a : Ad) : Sp := fun vs H Q E => ∃ (F : Fp) (o : Of) (d : Int) (aw : Addr) (ws : List Str), vs = [.ref F.p, .int d, .ref aw] ∧ Off a H F o ∧ Wf o ∧ d.natAbs.log2 < 1920 ∧ H aw = some (.lst (ws.map V.str)) ∧ aw ∉ F.foot ∧ 
  Ahead a H o d E fun i => (¬ Words ws → E (.ref a.NoWord) none H) ∧ (Words ws → ((o.le.getD i []).length < ws.length → E (.ref a.Short) none H) ∧
    (ws.length ≤ (o.le.getD i []).length → ∀ F' H' r, Beh a H H' F F' (o.report i ws) → H' r = some (.lst (((o.le.getD i []).take ws.length).map V.int)) → H r = none → r ∉ F'.foot → Q (.ref r) H'))
theorem ok_Office_report (T : Txt K mg a fd) : FnOk P w K mg base (L2.CX P w) 3 a.Office_report fd.Office_report ["self", "desk", "words"] (spReport a) := by
  have G_Office__check_going := ok_Office__check_going (P := P) (w := w) (base := base) T
  have G_Office__let_go := ok_Office__let_go (P := P) (w := w) (base := base) T
  refine T.F_Office_report.okX sc_Office_report (fun vs H Q E h => ?_) (fun cdv A outer s H vs Q E hr h => ?_)
  · obtain ⟨F, o, d, aw, ws, rfl, _⟩ := h
    rfl
  · obtain ⟨F, o, d, aw, ws, rfl, O, W, hd, hw, hwf, k1, k2⟩ := h
    have hu := hu_of hr
    refine ⟨_, (pss_cons (ps_expr (pe_meth (pv 0) T.cl T.m_Office__check_going G_Office__check_going (hr.mono (by decide)) T.b_Office__check_going .nil passU (pa_cons (pv 1) pa_nil)))
    (pss_cons (ps_for passesU rfl (pi_list (pv 2)) (pg_name (i := 3) sc_Office_report.nd rfl (Or.inl rfl))
      (pss_one (ps_if (PW.pt (pw_and (pt_cmpR op_ne (pv 3) (pe_gs (by rfl) T.g_PAPER) (nomark _)) (pw_and1 (pt_cmpR op_ne (pv 3) (pe_gs (by rfl) T.g_SPOILT) (nomark _))))) (pss_one (ps_raise rfl takesU (pmk_own PySem.F.excBase_ValueError T.x_NoWord.x T.x_NoWord.g T.x_NoWord.k (raises_own T.x_NoWord.b T.x_NoWord.t) (by rfl)))) pss_nil)))
    (pss_cons (ps_if (pt_cmpR op_gt (pe_callB call_len_seq (by rfl) T.n_len PySem.boot_len (pa_cons (pv 2) pa_nil)) (pe_callB call_len_seq (by rfl) T.n_len PySem.boot_len (pa_cons (pe_ix ix_list (pe_fld (pv 0) rfl) (pv 1) (fun _ _ => rfl)) pa_nil)) (nomark _)) (pss_one (ps_raise rfl takesU (pmk_ownA PySem.F.excBase_ValueError T.x_Short.x T.x_Short.g T.x_Short.k (raises_own T.x_Short.b T.x_Short.t) (by rfl) (pa_cons (pe_joined (.cons pe_str (.cons (pe_fmt (pv 1)) (.cons pe_str PJ.nil)))) pa_nil)))) pss_nil)
    (pss_cons (ps_set (i := 4) sc_Office_report.nd rfl (Or.inl rfl) (pe_slice sl_list (pe_ix ix_list (pe_fld (pv 0) rfl) (pv 1) (fun _ _ => rfl)) po_none (po_some (pe_callB call_len_seq (by rfl) T.n_len PySem.boot_len (pa_cons (pv 2) pa_nil)))))
    (pss_cons (ps_for passesU rfl (pi_zip (by rfl) T.n_zip (pa_cons (pv 4) (pa_cons (pv 2) pa_nil))) (pg_tup (by rfl) (pgs_cons (pg_name (i := 5) sc_Office_report.nd rfl (Or.inl rfl)) (pgs_cons (pg_name (i := 3) sc_Office_report.nd rfl (Or.inl rfl)) pgs_nil)))
      (pss_one (ps_expr (pe_meth (pv 0) T.cl T.m_Office__let_go G_Office__let_go (hr.mono (by decide)) T.b_Office__let_go .nil pass0 (pa_cons (pv 5) (pa_cons (pv 3) pa_nil))))))
    (pss_cons (ps_asg (pe_slice sl_list (pe_ix ix_list (pe_fld (pv 0) rfl) (pv 1) (fun _ _ => rfl)) (po_some (pe_callB call_len_seq (by rfl) T.n_len PySem.boot_len (pa_cons (pv 2) pa_nil))) po_none) (pg_sub (pe_fld (pv 0) rfl) (pv 1) set_list))
    (pss_one (ps_ret (pv 4))))))))), ?_⟩
    refine ⟨_, rfl, F.p, F.dx, _, rfl, O.ob, ofl_m F, _, rfl, F, o, d, rfl, O, hd, k1, fun i z e1 e2 => ⟨fun c => (k2 i z e1 e2).1 c, fun c => ?_⟩⟩
    obtain ⟨k3, k4⟩ := (k2 i z e1 e2).2 c
    subst e1
    have hi : i < o.le.length := by
      rw [← W.sl]
      exact (List.getElem?_eq_some_iff.mp e2).1
    have hns : o.le[i]? = some o.le[i] := List.getElem?_eq_getElem hi
    have hg := le_at hns
    -- the words
    refine ⟨_, rfl, aw, rfl, ⟨_, SqL.of hw⟩, for_list (K := K) (a := aw) (xs := ws.map V.str) (fun j σ H' => ∃ v : Option V, σ = [some (.ref F.p), some (.int (i : Int)), some (.ref aw), v, none, none] ∧ H' = H ∧ Words (ws.take j))
      ⟨none, rfl, rfl, fun x hx => by simp at hx⟩ (fun j σ H' _ ⟨_, _, e, _⟩ => by rw [e]; exact SqL.of hw) ?_ ?_⟩
    · rintro j x σ H' hj ⟨v, rfl, rfl, hok⟩
      obtain ⟨y, hy, rfl⟩ : ∃ y, ws[j]? = some y ∧ x = V.str y := by
        rw [List.getElem?_map] at hj
        cases e : ws[j]? with
        | none => rw [e] at hj; cases hj
        | some y => rw [e] at hj; exact ⟨y, rfl, (Option.some.inj hj).symm⟩
      have hmem : y ∈ ws := List.mem_of_getElem? hy
      refine ⟨_, rfl, rfl, _, rfl, ?_⟩
      by_cases c1 : y = "paper"
      · rw [dneF c1]
        refine iteF (iteF ?_)
        exact ⟨_, rfl, rfl, by rw [take_snoc hy]; intro x hx; rcases List.mem_append.mp hx with q | q; exact hok x q; exact .inl (by rw [List.mem_singleton.mp q]; exact c1)⟩
      · rw [dneT c1]
        refine iteT ?_
        refine ⟨_, rfl, rfl, _, rfl, ?_⟩
        by_cases c2 : y = "spoilt"
        · rw [dneF c2]
          refine iteF ?_
          exact ⟨_, rfl, rfl, by rw [take_snoc hy]; intro x hx; rcases List.mem_append.mp hx with q | q; exact hok x q; exact .inr (by rw [List.mem_singleton.mp q]; exact c2)⟩
        · rw [dneT c2]
          refine iteT ?_
          exact k3 fun q => (q y hmem).elim c1 c2
    · rintro σ H' ⟨v, rfl, rfl, hok⟩
      have hok' : Words ws := by
        rw [List.length_map, List.take_length] at hok
        exact hok
      obtain ⟨k5, k6⟩ := k4 hok'
      have hil : i < F.ls.length := by rw [O.ll]; exact hi
      have hl1 : F.ls[i]? = some F.ls[i] := List.getElem?_eq_getElem hil
      have hl := O.each i _ _ hl1 hns
      -- if len(words) > len(self._lent[desk])
      refine ⟨_, rfl, aw, _, rfl, .inl (SqL.of hw), ?_⟩
      refine rd_lent1 T O rfl rfl hl1 ?_
      refine ⟨_, _, rfl, .inl (SqL.of hl), _, _, rfl, rfl, _, rfl, ?_⟩
      rw [List.length_map, List.length_map]
      rw [hg] at k5 k6
      by_cases c1 : ((o.le[i].length : Nat) : Int) < (ws.length : Int)
      · rw [decide_eq_true c1]
        refine iteT ?_
        exact js_s (b := 0) (Nat.le_refl _) (by decide +kernel) (by omega) fun _ ha => js_f rfl hd ha (by omega) fun _ ha => js_s ha (by decide +kernel) (by omega) fun _ _ => ⟨one_le _, k5 (by omega)⟩
      · rw [decide_eq_false c1]
        refine iteF ?_
        have hle : ws.length ≤ o.le[i].length := by omega
        -- numbers = self._lent[desk][:len(words)]
        refine rd_lent1 T O rfl rfl hl1 ?_
        have lw : (ws.map V.str).length = ws.length := List.length_map _
        refine ⟨_, rfl, aw, _, rfl, .inl (SqL.of hw), _, rfl, _, _, rfl, SqL.of hl, fun b nb => ?_⟩
        have ec : cutV (o.le[i].map V.int) none (some (((ws.map V.str).length : Nat) : Int)) = (o.le[i].take ws.length).map V.int := by
          rw [cut_to, lw, List.map_take]
        rw [ec]
        have bF : b ∉ F.foot := O.new nb
        have ba : b ≠ aw := fun q => by rw [q, hw] at nb; cases nb
        have lt : (o.le[i].take ws.length).length = ws.length := by rw [List.length_take]; omega
        have Ob : Off a (upd H' b (.lst ((o.le[i].take ws.length).map V.int))) F o := O.stay fun c hc u e => by rw [upd_ne (fun q => bF (by rw [← q]; exact hc))]; exact e
        have hwb : (upd H' b (.lst ((o.le[i].take ws.length).map V.int))) aw = some (.lst (ws.map V.str)) := by rw [upd_ne ba.symm]; exact hw
        obtain ⟨nd, own⟩ := W.own i _ hns
        -- for number, word in zip(numbers, words)
        refine ⟨_, rfl, _, rfl, b, aw, _, _, rfl, SqL.of upd_same, SqL.of hwb, RZ.for_zipL (K := K) (a := b) (b := aw) (xs := (o.le[i].take ws.length).map V.int) (ys := ws.map V.str) (by rw [List.length_map, lw, lt])
          (fun j σ H2 => ∃ (v n : Option V), σ = [some (.ref F.p), some (.int (i : Int)), some (.ref aw), v, some (.ref b), n] ∧ Keep F.foot (upd H' b (.lst ((o.le[i].take ws.length).map V.int))) H2 ∧ Off a H2 F (o.lets (((o.le[i].take ws.length).zip ws).take j)))
          ⟨_, _, rfl, Keep.refl _ _, Ob⟩ (fun j σ H2 ⟨_, _, _, kp, _⟩ => ⟨SqL.of (kp _ _ upd_same bF), SqL.of (kp _ _ hwb hwf)⟩) ?_ ?_⟩
        · rintro j x y Tt σ H2 hx hy ⟨v, n, rfl, kp, O2⟩ hT
          obtain ⟨nx, hnx, rfl⟩ : ∃ nx, (o.le[i].take ws.length)[j]? = some nx ∧ x = V.int nx := by
            rw [List.getElem?_map] at hx
            cases e : (o.le[i].take ws.length)[j]? with
            | none => rw [e] at hx; cases hx
            | some y => rw [e] at hx; exact ⟨y, rfl, (Option.some.inj hx).symm⟩
          obtain ⟨wy, hwy, rfl⟩ : ∃ wy, ws[j]? = some wy ∧ y = V.str wy := by
            rw [List.getElem?_map] at hy
            cases e : ws[j]? with
            | none => rw [e] at hy; cases hy
            | some y => rw [e] at hy; exact ⟨y, rfl, (Option.some.inj hy).symm⟩
          have TF : Tt ∉ F.foot := O2.new hT
          have O3 : Off a (upd H2 Tt (.tup [V.int nx, V.str wy])) F (o.lets (((o.le[i].take ws.length).zip ws).take j)) := O2.stay fun c hc u e => by rw [upd_ne (fun q => TF (by rw [← q]; exact hc))]; exact e
          have hin : nx ∈ o.le[i] := List.mem_of_mem_take (List.mem_of_getElem? hnx)
          obtain ⟨b1, b2, b3⟩ := own nx hin
          have hz : ((o.le[i].take ws.length).zip ws)[j]? = some (nx, wy) := List.getElem?_zip_eq_some.mpr ⟨hnx, hwy⟩
          have ek : ((o.le[i].take ws.length).zip ws).map (·.1) = o.le[i].take ws.length := zip_keys _ _ lt
          have notyet : nx ∉ (((o.le[i].take ws.length).zip ws).take j).map (·.1) := by
            rw [List.map_take, ek]
            intro hm
            obtain ⟨j', hj', e⟩ := List.getElem_of_mem hm
            have h1 : (o.le[i].take ws.length)[j']? = some nx := by
              rw [List.length_take] at hj'
              rw [← e, List.getElem_take]
              exact List.getElem?_eq_getElem (by omega)
            have ndt : (o.le[i].take ws.length).Nodup := nd.sublist (List.take_sublist _ _)
            have := (List.getElem?_inj (List.getElem?_eq_some_iff.mp h1).1 ndt).mp (h1.trans hnx.symm)
            rw [List.length_take] at hj'
            omega
          have tp := lets_top (((o.le[i].take ws.length).zip ws).take j) o
          refine ⟨Tt, _, rfl, SqT.of upd_same, rfl, _, _, rfl, _, _, rfl, rfl, ?_⟩
          refine ⟨_, rfl, F.p, F.dx, _, rfl, O3.ob, ofl_m F, _, rfl, _, rfl, F, _, nx, wy, rfl, O3, by rw [tp.1]; exact ⟨b1, b2⟩, by rw [tp.1]; exact W.t400, ⟨(i : Int), by rw [lets_ho, if_neg notyet]; exact b3⟩, fun H4 k4' O4 => ?_⟩
          refine ⟨_, _, rfl, (kp.trans (keep_upd (.inr hT))).trans k4', ?_⟩
          rw [take_snoc hz, lets_snoc]
          exact O4
        · rintro σ H2 ⟨v, n, rfl, kp, O2⟩
          have ez : ((o.le[i].take ws.length).zip ws).take ((o.le[i].take ws.length).map V.int).length = (o.le[i].take ws.length).zip ws := List.take_of_length_le (by rw [List.length_map, List.length_zip]; omega)
          rw [ez] at O2
          have tp := lets_top ((o.le[i].take ws.length).zip ws) o
          have hns2 : (o.lets ((o.le[i].take ws.length).zip ws)).le[i]? = some o.le[i] := by rw [tp.2.2]; exact hns
          have hl2 := O2.each i _ _ hl1 hns2
          have hw2 := kp _ _ hwb hwf
          -- self._lent[desk] = self._lent[desk][len(words):]
          refine rd_lent1 T O2 rfl rfl hl1 ?_
          refine ⟨_, rfl, aw, _, rfl, .inl (SqL.of hw2), _, rfl, _, _, rfl, SqL.of hl2, fun r nr => ?_⟩
          have ec2 : cutV (o.le[i].map V.int) (some (((ws.map V.str).length : Nat) : Int)) none = (o.le[i].drop ws.length).map V.int := by
            rw [cut_from _ _ (by rw [lw, List.length_map]; exact hle), lw, List.map_drop]
          rw [ec2]
          have rF := O2.new nr
          have O3 : Off a (upd H2 r (.lst ((o.le[i].drop ws.length).map V.int))) F (o.lets ((o.le[i].take ws.length).zip ws)) := O2.stay fun c hc u e => by rw [upd_ne (fun q => rF (by rw [← q]; exact hc))]; exact e
          refine rd_put T O3 rfl rfl hil ?_
          rw [← List.map_set]
          have bl2 := kp _ _ upd_same bF
          have br : b ≠ r := fun q => by rw [q, nr] at bl2; cases bl2
          have B := Beh.newLe (d := i) O2 ((Keep.trans (keep_upd (.inr nb)) kp : Keep F.foot H' H2)) nr hil (o.le[i].drop ws.length)
          have eo : o.report i ws = { (o.lets ((o.le[i].take ws.length).zip ws)) with le := (o.lets ((o.le[i].take ws.length).zip ws)).le.set i (o.le[i].drop ws.length) } := by
            unfold Of.report
            rw [hg, tp.2.2]
          refine ⟨_, rfl, k6 hle { F with ls := F.ls.set i r } _ b (by rw [eo]; exact B) ?_ nb fun q => ?_⟩
          · rw [upd_ne (fun q => bF (by rw [q]; exact foot_aL F)), upd_ne br]
            exact bl2
          · rcases mem_foot_set q with q | q
            · exact bF q
            · exact br q
end
end Nu
namespace Nu
open PySem PySem.Spec PyProof.Rows L2
theorem Off.upd_new {a : Ad} {H : Hp} {F : Fp} {o : Of} (O : Off a H F o) {r : Addr} {u : HO} (nr : H r = none) : Off a (upd H r u) F o := by
  have hn := O.new nr
  exact O.stay fun c hc v e => by rw [upd_ne (fun q => hn (by rw [← q]; exact hc))]; exact e
theorem map_int_at {ns : List Int} {j : Nat} {x : V} (h : (ns.map V.int)[j]? = some x) : ∃ n, ns[j]? = some n ∧ x = V.int n := by
  rw [List.getElem?_map] at h
  cases e : ns[j]? with
  | none => rw [e] at h; cases h
  | some y => rw [e] at h; exact ⟨y, rfl, (Option.some.inj h).symm⟩
section
variable {P : Program} {w : World} {K : PySem.W.Frag} {mg : Str → Option Value} {base : Heap} {a : Ad} {fd : Fd}
def spBack (a : Ad) : Sp := fun vs H Q E => ∃ (F : Fp) (o : Of) (d : Int), vs = [.ref F.p, .int d] ∧ Off a H F o ∧ Wf o ∧ d.natAbs.log2 < 1920 ∧
  Ahead a H o d E fun i => ∀ (F' : Fp) (H' : Hp) (r : Addr) (ns' : List Int), Beh a H H' F F' (o.back i) → ns'.Perm (o.le.getD i []) → ns'.Pairwise (· ≤ ·) → H' r = some (.lst (ns'.map V.int)) → H r = none → r ∉ F'.foot → Q (.ref r) H'
theorem ok_Office_back (T : Txt K mg a fd) : FnOk P w K mg base (L2.CX P w) 3 a.Office_back fd.Office_back ["self", "desk"] (spBack a) := by
  have G_Office__check_going := ok_Office__check_going (P := P) (w := w) (base := base) T
  have G_Office__let_go := ok_Office__let_go (P := P) (w := w) (base := base) T
  refine T.F_Office_back.okX sc_Office_back (fun vs H Q E h => ?_) (fun cdv A outer s H vs Q E hr h => ?_)
  · obtain ⟨F, o, d, rfl, _⟩ := h
    rfl
  · obtain ⟨F, o, d, rfl, O, W, hd, k1, k2⟩ := h
    have hu := hu_of hr
    refine ⟨_, (pss_cons (ps_expr (pe_meth (pv 0) T.cl T.m_Office__check_going G_Office__check_going (hr.mono (by decide)) T.b_Office__check_going .nil passU (pa_cons (pv 1) pa_nil)))
    (pss_cons (ps_set (i := 2) sc_Office_back.nd rfl (Or.inl rfl) (pe_ix ix_list (pe_fld (pv 0) rfl) (pv 1) (fun _ _ => rfl)))
    (pss_cons (ps_for passesU rfl (pi_list (pv 2)) (pg_name (i := 3) sc_Office_back.nd rfl (Or.inl rfl))
      (pss_one (ps_expr (pe_meth (pv 0) T.cl T.m_Office__let_go G_Office__let_go (hr.mono (by decide)) T.b_Office__let_go .nil pass0 (pa_cons (pv 3) (pa_cons (pe_gs (by rfl) T.g_FREE) pa_nil))))))
    (pss_cons (ps_asg (pe_lst pa_nil) (pg_sub (pe_fld (pv 0) rfl) (pv 1) set_list))
    (pss_one (ps_ret (pe_callB cr_sortedI (by rfl) T.n_sorted (by decide +kernel) (pa_cons (pv 2) pa_nil)))))))), ?_⟩
    refine ⟨_, rfl, F.p, F.dx, _, rfl, O.ob, ofl_m F, _, rfl, F, o, d, rfl, O, hd, k1, fun i z e1 e2 => ⟨fun c => (k2 i z e1 e2).1 c, fun c => ?_⟩⟩
    have k3 := (k2 i z e1 e2).2 c
    subst e1
    have hi : i < o.le.length := by
      rw [← W.sl]
      exact (List.getElem?_eq_some_iff.mp e2).1
    have hns : o.le[i]? = some o.le[i] := List.getElem?_eq_getElem hi
    have hg := le_at hns
    have hil : i < F.ls.length := by rw [O.ll]; exact hi
    have hl1 : F.ls[i]? = some F.ls[i] := List.getElem?_eq_getElem hil
    have hl := O.each i _ _ hl1 hns
    obtain ⟨nd, own⟩ := W.own i _ hns
    dsimp only at k3
    rw [hg] at k3
    refine rd_lent1 T O rfl rfl hl1 ?_
    refine ⟨_, rfl, F.ls[i], rfl, ⟨_, SqL.of hl⟩, for_list (K := K) (a := F.ls[i]) (xs := o.le[i].map V.int)
      (fun j σ H2 => ∃ n : Option V, σ = [some (.ref F.p), some (.int (i : Int)), some (.ref F.ls[i]), n] ∧ Keep F.foot H H2 ∧ Off a H2 F (o.lets ((o.le[i].map fun n => (n, ("free" : Str))).take j)))
      ⟨none, rfl, Keep.refl _ _, O⟩ (fun j σ H2 _ ⟨_, _, _, O2⟩ => SqL.of (O2.each i _ _ hl1 (by rw [(lets_top _ _).2.2]; exact hns))) ?_ ?_⟩
    · rintro j x σ H2 hx ⟨n, rfl, kp, O2⟩
      obtain ⟨nx, hnx, rfl⟩ := map_int_at hx
      have hin : nx ∈ o.le[i] := List.mem_of_getElem? hnx
      obtain ⟨b1, b2, b3⟩ := own nx hin
      have hz : (o.le[i].map fun n => (n, ("free" : Str)))[j]? = some (nx, ("free" : Str)) := by rw [List.getElem?_map, hnx]; rfl
      have notyet : nx ∉ ((o.le[i].map fun n => (n, ("free" : Str))).take j).map (·.1) := by
        rw [List.map_take, List.map_map]
        have e0 : (o.le[i].map ((fun p : Int × Str => p.1) ∘ fun n => (n, ("free" : Str)))) = o.le[i] := List.map_id' _
        rw [e0]
        intro hm
        obtain ⟨j', hj', e⟩ := List.getElem_of_mem hm
        rw [List.length_take] at hj'
        have h1 : o.le[i][j']? = some nx := by
          rw [← e, List.getElem_take]
          exact List.getElem?_eq_getElem (by omega)
        have := (List.getElem?_inj (List.getElem?_eq_some_iff.mp h1).1 nd).mp (h1.trans hnx.symm)
        omega
      have tp := lets_top ((o.le[i].map fun n => (n, ("free" : Str))).take j) o
      refine ⟨_, rfl, F.p, F.dx, _, rfl, O2.ob, ofl_m F, _, rfl, F, _, nx, "free", rfl, O2, by rw [tp.1]; exact ⟨b1, b2⟩, by rw [tp.1]; exact W.t400, ⟨(i : Int), by rw [lets_ho, if_neg notyet]; exact b3⟩, fun H4 k4' O4 => ?_⟩
      refine ⟨_, rfl, kp.trans k4', ?_⟩
      rw [take_snoc hz, lets_snoc]
      exact O4
    · rintro σ H2 ⟨n, rfl, kp, O2⟩
      have ez : (o.le[i].map fun n => (n, ("free" : Str))).take (o.le[i].map V.int).length = o.le[i].map fun n => (n, ("free" : Str)) := List.take_of_length_le (by rw [List.length_map, List.length_map]; omega)
      rw [ez] at O2
      have tp := lets_top (o.le[i].map fun n => (n, ("free" : Str))) o
      have hns2 : (o.lets (o.le[i].map fun n => (n, ("free" : Str)))).le[i]? = some o.le[i] := by rw [tp.2.2]; exact hns
      have hl2 := O2.each i _ _ hl1 hns2
      refine ⟨Nat.zero_le _, fun r nr => ?_⟩
      have rF := O2.new nr
      have O3 : Off a (upd H2 r (.lst [])) F _ := O2.upd_new nr
      refine rd_put T O3 rfl rfl hil ?_
      rw [← List.map_set]
      have B := Beh.newLe (d := i) O2 kp nr hil []
      have eo : o.back i = { (o.lets (o.le[i].map fun n => (n, ("free" : Str)))) with le := (o.lets (o.le[i].map fun n => (n, ("free" : Str)))).le.set i [] } := by
        unfold Of.back
        rw [hg, tp.2.2]
      -- return sorted(numbers)
      have lr : F.ls[i] ≠ r := fun q => by rw [q, nr] at hl2; cases hl2
      have la : F.ls[i] ≠ F.aL := fun q => O.ne.aL_ls (by rw [← q]; exact List.mem_of_getElem? hl1)
      have hl3 : (upd (upd H2 r (.lst [])) F.aL (.lst ((F.ls.set i r).map V.ref))) F.ls[i] = some (.lst (o.le[i].map V.int)) := by
        rw [upd_ne la, upd_ne lr]
        exact hl2
      refine ⟨_, rfl, F.ls[i], _, rfl, SqL.of hl3, fun ns' p pm pw hp => ?_⟩
      have pF := B.of.new hp
      refine k3 { F with ls := F.ls.set i r } _ p ns' ⟨fun c u e hc => ?_, B.ff, rfl, by rw [eo]; exact B.of.upd_new hp⟩ pm pw upd_same ?_ pF
      · have h1 := B.kp c u e hc
        rw [upd_ne (fun q => by rw [q] at h1; exact absurd (h1.symm.trans hp) (by simp))]
        exact h1
      · refine B.kp.free hp fun q => ?_
        obtain ⟨u, hu1⟩ := O2.has p q
        by_cases c1 : p = F.aL
        · exact pF (by rw [c1]; exact foot_aL _)
        · rw [upd_ne c1] at hp
          by_cases c2 : p = r
          · rw [c2, upd_same] at hp
            cases hp
          · rw [upd_ne c2, hu1] at hp
            cases hp
def spRest (a : Ad) : Sp := fun vs H Q E => ∃ (F : Fp) (o : Of) (d : Int), vs = [.ref F.p, .int d] ∧ Off a H F o ∧ Wf o ∧ d.natAbs.log2 < 1920 ∧ (¬ (0 ≤ d ∧ d < (o.sg.length : Int)) → E (.ref a.NoDesk) none H) ∧
  ∀ (i : Nat) (z : Str), d = (i : Int) → o.sg[i]? = some z → ∀ r, H r = none → Q (.ref r) (upd H r (.lst (if z = "stopped" then (o.le.getD i []).map V.int else [])))
theorem ok_Office_rest (T : Txt K mg a fd) : FnOk P w K mg base (L2.CX P w) 2 a.Office_rest fd.Office_rest ["self", "desk"] (spRest a) := by
  have G_Office__check_desk := ok_Office__check_desk (P := P) (w := w) (base := base) T
  have G_Office_has_rest := ok_Office_has_rest (P := P) (w := w) (base := base) T
  refine T.F_Office_rest.okX sc_Office_rest (fun vs H Q E h => ?_) (fun cdv A outer s H vs Q E hr h => ?_)
  · obtain ⟨F, o, d, rfl, _⟩ := h
    rfl
  · obtain ⟨F, o, d, rfl, O, W, hn, k1, k2⟩ := h
    have hu := hu_of hr
    refine ⟨_, (pss_cons (ps_expr (pe_meth (pv 0) T.cl T.m_Office__check_desk G_Office__check_desk (hr.mono (by decide)) T.b_Office__check_desk .nil passU (pa_cons (pv 1) pa_nil)))
    (pss_cons (ps_if (pt_not (pt_val (pe_meth (pv 0) T.cl T.m_Office_has_rest G_Office_has_rest (hr.mono (by decide)) T.b_Office_has_rest .nil pass0 (pa_cons (pv 1) pa_nil)))) (pss_one (ps_ret (pe_lst pa_nil))) pss_nil)
    (pss_one (ps_ret (pe_callTy call_list_of (by rfl) T.n_list (by decide +kernel) (pa_cons (pe_ix ix_list (pe_fld (pv 0) rfl) (pv 1) (fun _ _ => rfl)) pa_nil)))))), ?_⟩
    refine ⟨_, rfl, F.p, F.dx, _, rfl, O.ob, ofl_m F, _, rfl, F, o, d, rfl, O, hn, k1, fun c => ?_⟩
    obtain ⟨i, rfl⟩ := Int.eq_ofNat_of_zero_le c.1
    have hi : i < o.sg.length := by omega
    have e : o.sg[i]? = some o.sg[i] := List.getElem?_eq_getElem hi
    have k3 := k2 i _ rfl e
    have hi2 : i < o.le.length := by rw [← W.sl]; exact hi
    have hns : o.le[i]? = some o.le[i] := List.getElem?_eq_getElem hi2
    have hl1 : F.ls[i]? = some (F.ls[i]'(by rw [O.ll]; exact hi2)) := List.getElem?_eq_getElem _
    have hl := O.each i _ _ hl1 hns
    rw [le_at hns] at k3
    refine ⟨_, rfl, F.p, F.dx, _, rfl, O.ob, ofl_m F, _, rfl, F, o, i, _, rfl, O, e, _, rfl, ?_⟩
    by_cases c3 : o.sg[i] = "stopped"
    · rw [decide_eq_true c3]
      refine iteF ?_
      refine rd_lent1 T O rfl rfl hl1 ?_
      refine ⟨_, _, rfl, .inl (SqL.of hl), fun r hr => ?_⟩
      have := k3 r hr
      rw [if_pos c3] at this
      exact this
    · rw [decide_eq_false c3]
      refine iteT ?_
      refine ⟨Nat.zero_le _, fun r hr => ?_⟩
      have := k3 r hr
      rw [if_neg c3] at this
      exact this
end
end Nu
namespace Nu
open PySem PySem.Spec PyProof.Rows L2
section
variable {P : Program} {w : World} {K : PySem.W.Frag} {mg : Str → Option Value} {base : Heap} {a : Ad} {fd : Fd}
def spOpen (a : Ad) : Sp := fun vs H Q E => ∃ (F : Fp) (o : Of) (d : Int), vs = [.ref F.p, .int d] ∧ Off a H F o ∧ Wf o ∧ d.natAbs.log2 < 1920 ∧ (¬ (0 ≤ d ∧ d < (o.sg.length : Int)) → E (.ref a.NoDesk) none H) ∧
  ∀ (i : Nat) (z : Str), d = (i : Int) → o.sg[i]? = some z → ∀ r, H r = none → Q (.ref r) (upd H r (.lst (if z = "going" then (o.le.getD i []).map V.int else [])))
theorem ok_Office_open_numbers (T : Txt K mg a fd) : FnOk P w K mg base (L2.CX P w) 2 a.Office_open_numbers fd.Office_open_numbers ["self", "desk"] (spOpen a) := by
  have G_Office__check_desk := ok_Office__check_desk (P := P) (w := w) (base := base) T
  refine T.F_Office_open_numbers.okX sc_Office_open_numbers (fun vs H Q E h => ?_) (fun cdv A outer s H vs Q E hr h => ?_)
  · obtain ⟨F, o, d, rfl, _⟩ := h
    rfl
  · obtain ⟨F, o, d, rfl, O, W, hn, k1, k2⟩ := h
    have hu := hu_of hr
    refine ⟨_, (pss_cons (ps_expr (pe_meth (pv 0) T.cl T.m_Office__check_desk G_Office__check_desk (hr.mono (by decide)) T.b_Office__check_desk .nil passU (pa_cons (pv 1) pa_nil)))
    (pss_cons (ps_if (pt_cmpR op_ne (pe_ix ix_list (pe_fld (pv 0) rfl) (pv 1) (fun _ _ => rfl)) (pe_gs (by rfl) T.g_GOING) (nomark _)) (pss_one (ps_ret (pe_lst pa_nil))) pss_nil)
    (pss_one (ps_ret (pe_callTy call_list_of (by rfl) T.n_list (by decide +kernel) (pa_cons (pe_ix ix_list (pe_fld (pv 0) rfl) (pv 1) (fun _ _ => rfl)) pa_nil)))))), ?_⟩
    refine ⟨_, rfl, F.p, F.dx, _, rfl, O.ob, ofl_m F, _, rfl, F, o, d, rfl, O, hn, k1, fun c => ?_⟩
    obtain ⟨i, rfl⟩ := Int.eq_ofNat_of_zero_le c.1
    have hi : i < o.sg.length := by omega
    have e : o.sg[i]? = some o.sg[i] := List.getElem?_eq_getElem hi
    have k3 := k2 i _ rfl e
    have hi2 : i < o.le.length := by rw [← W.sl]; exact hi
    have hns : o.le[i]? = some o.le[i] := List.getElem?_eq_getElem hi2
    have hl1 : F.ls[i]? = some (F.ls[i]'(by rw [O.ll]; exact hi2)) := List.getElem?_eq_getElem _
    have hl := O.each i _ _ hl1 hns
    rw [le_at hns] at k3
    refine rd_stage T O rfl rfl e ?_
    refine ⟨rfl, _, rfl, ?_⟩
    by_cases c3 : o.sg[i] = "going"
    · rw [dneF c3]
      refine iteF ?_
      refine rd_lent1 T O rfl rfl hl1 ?_
      refine ⟨_, _, rfl, .inl (SqL.of hl), fun r hr => ?_⟩
      have := k3 r hr
      rw [if_pos c3] at this
      exact this
    · rw [dneT c3]
      refine iteT ?_
      refine ⟨Nat.zero_le _, fun r hr => ?_⟩
      have := k3 r hr
      rw [if_neg c3] at this
      exact this
end
end Nu
namespace Nu
open PySem PySem.Spec PyProof.Rows L2
def Of.new (top desks : Nat) : Of := ⟨top, fun _ => "free", fun _ => none, List.replicate desks "going", List.replicate desks []⟩
theorem wf_new {t d : Nat} (h1 : 1 ≤ t) (h2 : t ≤ 400) (h3 : 1 ≤ d) (h4 : d ≤ 6) : Wf (Of.new t d) := by
  refine ⟨h1, h2, by show 1 ≤ (List.replicate d ([] : List Int)).length; rw [List.length_replicate]; exact h3, by show (List.replicate d ([] : List Int)).length ≤ 6; rw [List.length_replicate]; exact h4, by show (List.replicate d ("going" : Str)).length = (List.replicate d ([] : List Int)).length; rw [List.length_replicate, List.length_replicate], fun i ns e => ?_, (fun n d e => by cases e), fun _ _ => rfl⟩
  have e : (List.replicate d ([] : List Int))[i]? = some ns := e
  have : ns = [] := (List.mem_replicate.mp (List.mem_of_getElem? e)).2
  subst this
  exact ⟨List.nodup_nil, fun n hn => by cases hn⟩
theorem repl_succ {α : Type} (n : Nat) (x : α) : List.replicate (n + 1) x = List.replicate n x ++ [x] := List.replicate_succ'
section
variable {P : Program} {w : World} {K : PySem.W.Frag} {mg : Str → Option Value} {base : Heap} {a : Ad} {fd : Fd}
def spInit (a : Ad) : Sp := fun vs H Q E => ∃ (p dx : Addr) (t d : Int), vs = [.ref p, .int t, .int d] ∧ H p = some (.ins a.C dx []) ∧ t.natAbs.log2 < 1920 ∧ d.natAbs.log2 < 1920 ∧
  (¬ (1 ≤ t ∧ t ≤ 400) → E (.ref a.NoOffice) none H) ∧ (1 ≤ t ∧ t ≤ 400 → ¬ (1 ≤ d ∧ d ≤ 6) → E (.ref a.NoOffice) none H) ∧
  (1 ≤ t ∧ t ≤ 400 → 1 ≤ d ∧ d ≤ 6 → ∀ (F : Fp) (H' : Hp), F.p = p → F.dx = dx → (∀ c ∈ F.foot, c = p ∨ H c = none) → Keep [p] H H' → Off a H' F (Of.new t.toNat d.toNat) → Q .non H')
theorem ok_Office_init (T : Txt K mg a fd) : FnOk P w K mg base (L2.CX P w) 1 a.Office_init fd.Office_init ["self", "top", "desks"] (spInit a) := by
  refine T.F_Office_init.okX sc_Office_init (fun vs H Q E h => ?_) (fun cdv A outer s H vs Q E hr h => ?_)
  · obtain ⟨p, dx, t, d, rfl, _⟩ := h
    rfl
  · obtain ⟨p, dx, t, d, rfl, hp, ht, hd, k1, k2, k3⟩ := h
    have hu := hu_of hr
    refine ⟨_, (pss_cons (ps_if (PW.pt (pw_or (pt_cmpR op_lt (pv 1) pe_int (nomark _)) (pw_or1 (pt_cmpR op_gt (pv 1) (pe_gi (by rfl) T.g_MOST_NUMBERS) (nomark _))))) (pss_one (ps_raise rfl takesU (pmk_ownA PySem.F.excBase_ValueError T.x_NoOffice.x T.x_NoOffice.g T.x_NoOffice.k (raises_own T.x_NoOffice.b T.x_NoOffice.t) (by rfl) (pa_cons (pe_joined (.cons pe_str (.cons (pe_fmt (pv 1)) (.cons pe_str PJ.nil)))) pa_nil)))) pss_nil)
    (pss_cons (ps_if (PW.pt (pw_or (pt_cmpR op_lt (pv 2) pe_int (nomark _)) (pw_or1 (pt_cmpR op_gt (pv 2) (pe_gi (by rfl) T.g_MOST_DESKS) (nomark _))))) (pss_one (ps_raise rfl takesU (pmk_ownA PySem.F.excBase_ValueError T.x_NoOffice.x T.x_NoOffice.g T.x_NoOffice.k (raises_own T.x_NoOffice.b T.x_NoOffice.t) (by rfl) (pa_cons (pe_joined (.cons pe_str (.cons (pe_fmt (pv 2)) (.cons pe_str PJ.nil)))) pa_nil)))) pss_nil)
    (pss_cons (ps_fld (pv 0) (pe_dc (own := [("number", 3)]) (g := gName 3) (by rfl) sc_Office_init.nd (pi_range2 (by rfl) T.n_range (pa_cons pe_int (pa_cons (pe_op op_add (pv 1) pe_int) pa_nil))) (blkOk_by (own := [("number", 3)]) (N := ["self", "top", "desks", "number", "desk"]) (sc := defScope s_Office_init) (by decide +kernel)) (fun _ _ _ _ _ => pg_name (i := 3) sc_Office_init.nd rfl (Or.inl rfl)) (fun _ _ _ _ _ => pts_nil) (fun _ _ _ _ _ => (pv 3)) (fun _ _ _ _ _ => (pe_gs (by rfl) T.g_FREE))) rfl)
    (pss_cons (ps_fld (pv 0) pe_dnewK rfl)
    (pss_cons (ps_fld (pv 0) (pe_lc (own := [("desk", 4)]) (g := gName 4) (by rfl) sc_Office_init.nd (pi_range1 (by rfl) T.n_range (pa_cons (pv 2) pa_nil)) (blkOk_by (own := [("desk", 4)]) (N := ["self", "top", "desks", "number", "desk"]) (sc := defScope s_Office_init) (by decide +kernel)) (fun _ _ _ _ _ => pg_name (i := 4) sc_Office_init.nd rfl (Or.inl rfl)) (fun _ _ _ _ _ => pts_nil) (fun _ _ _ _ _ => (pe_gs (by rfl) T.g_GOING))) rfl)
    (pss_one (ps_fld (pv 0) (pe_lc (own := [("desk", 4)]) (g := gName 4) (by rfl) sc_Office_init.nd (pi_range1 (by rfl) T.n_range (pa_cons (pv 2) pa_nil)) (blkOk_by (own := [("desk", 4)]) (N := ["self", "top", "desks", "number", "desk"]) (sc := defScope s_Office_init) (by decide +kernel)) (fun _ _ _ _ _ => pg_name (i := 4) sc_Office_init.nd rfl (Or.inl rfl)) (fun _ _ _ _ _ => pts_nil) (fun _ _ _ _ _ => (pe_lst pa_nil))) rfl))))))), ?_⟩
    refine ⟨_, rfl, _, _, rfl, rfl, _, rfl, ?_⟩
    by_cases c1 : t < 1
    · rw [decide_eq_true c1]
      refine iteT (iteT ?_)
      exact js_s (b := 0) (Nat.le_refl _) (by decide +kernel) (by omega) fun _ ha => js_f rfl ht ha (by omega) fun _ ha => js_s ha (by decide +kernel) (by omega) fun _ _ => ⟨one_le _, k1 (by omega)⟩
    · rw [decide_eq_false c1]
      refine iteF ?_
      refine ⟨_, rfl, _, _, rfl, rfl, _, rfl, ?_⟩
      by_cases c2 : (400 : Int) < t
      · rw [decide_eq_true c2]
        refine iteT ?_
        exact js_s (b := 0) (Nat.le_refl _) (by decide +kernel) (by omega) fun _ ha => js_f rfl ht ha (by omega) fun _ ha => js_s ha (by decide +kernel) (by omega) fun _ _ => ⟨one_le _, k1 (by omega)⟩
      · rw [decide_eq_false c2]
        refine iteF ?_
        refine ⟨_, rfl, _, _, rfl, rfl, _, rfl, ?_⟩
        by_cases c3 : d < 1
        · rw [decide_eq_true c3]
          refine iteT (iteT ?_)
          exact js_s (b := 0) (Nat.le_refl _) (by decide +kernel) (by omega) fun _ ha => js_f rfl hd ha (by omega) fun _ ha => js_s ha (by decide +kernel) (by omega) fun _ _ => ⟨one_le _, k2 (by omega) (by omega)⟩
        · rw [decide_eq_false c3]
          refine iteF ?_
          refine ⟨_, rfl, _, _, rfl, rfl, _, rfl, ?_⟩
          by_cases c4 : (6 : Int) < d
          · rw [decide_eq_true c4]
            refine iteT ?_
            exact js_s (b := 0) (Nat.le_refl _) (by decide +kernel) (by omega) fun _ ha => js_f rfl hd ha (by omega) fun _ ha => js_s ha (by decide +kernel) (by omega) fun _ _ => ⟨one_le _, k2 (by omega) (by omega)⟩
          · rw [decide_eq_false c4]
            refine iteF ?_
            -- self._states
            refine ⟨_, rfl, _, _, rfl, rfl, 1, t + 1, rfl, ⟨by omega, by omega, by omega, by omega⟩, fun D nD => ?_⟩
            have et : (t + 1 - 1).toNat = t.toNat := by congr 1; omega
            rw [et]
            refine ⟨fun i m H' => m = t.toNat - i ∧ i ≤ t.toNat ∧ Same H H' ∧ H' D = some (.dK (stK i fun _ => "free")), ⟨t.toNat, rfl, Nat.zero_le _, same_upd nD, upd_same⟩, ?_⟩
            rintro i m H1 ⟨rfl, hi, s1, h1⟩
            by_cases hlt : i < t.toNat
            · refine .inr ⟨hlt, fun H' => Same H H' ∧ H' D = some (.dK (stK (i + 1) fun _ => "free")), fun H' q => ⟨t.toNat - (i + 1), by omega, rfl, hlt, q⟩, fun x H2 y => ?_⟩
              obtain ⟨rfl, rfl⟩ := y
              refine ⟨rfl, ?_⟩
              dsimp only [tYes]
              rw [if_pos rfl]
              refine ⟨_, rfl, _, Sum.inl (1 + (i : Int)), rfl, h1, small1000 (by rw [stK_length]; omega), fun c u e => ?_, ?_⟩
              · rw [upd_ne (fun z => by rw [z] at e; rw [nD] at e; cases e)]
                exact s1 c u e
              · rw [upd_same, show (1 : Int) + (i : Int) = (i : Int) + 1 by omega]
                exact congrArg (fun l => some (HO.dK l)) (stK_grow i fun _ => "free")
            · have ei : i = t.toNat := by omega
              subst ei
              refine .inl ⟨Nat.le_refl _, ?_⟩
              refine ⟨_, rfl, p, a.C, dx, _, rfl, s1 _ _ hp, T.cl, T.na_states, by show 0 < 1000; decide, ?_⟩
              -- self._holders = {}
              have npD : p ≠ D := ne_of_none hp nD
              intro dH nH
              have npH : p ≠ dH := fun z => by rw [z, upd_same] at nH; cases nH
              have nDH : D ≠ dH := fun z => by rw [← z, upd_ne npD.symm, h1] at nH; cases nH
              have nH1 : H1 dH = none := by rw [upd_ne npH.symm] at nH; exact nH
              refine ⟨_, rfl, p, a.C, dx, _, rfl, by rw [upd_ne npH]; exact upd_same, T.cl, T.na_holders, by show 1 < 1000; decide, ?_⟩
              -- self._stages
              refine ⟨_, rfl, d, rfl, by omega, by omega, fun aS nS => ?_⟩
              have npS : p ≠ aS := fun z => by rw [z, upd_same] at nS; cases nS
              have nHS : dH ≠ aS := fun z => by rw [← z, upd_ne npH.symm, upd_same] at nS; cases nS
              have nDS : D ≠ aS := fun z => by rw [← z, upd_ne npD.symm, upd_ne nDH, upd_ne npD.symm, h1] at nS; cases nS
              generalize eH3 : upd (upd (upd H1 p _) dH _) p _ = H3 at nS
              refine ⟨fun i m H' => m = d.toNat - i ∧ i ≤ d.toNat ∧ Same H3 H' ∧ H' aS = some (.lst ((List.replicate i ("going" : Str)).map V.str)), ⟨d.toNat, rfl, Nat.zero_le _, same_upd nS, upd_same⟩, ?_⟩
              rintro i m H4 ⟨rfl, hi4, s4, h4⟩
              by_cases hlt4 : i < d.toNat
              · refine .inr ⟨hlt4, fun H' => Same H3 H' ∧ H' aS = some (.lst ((List.replicate (i + 1) ("going" : Str)).map V.str)), fun H' q => ⟨d.toNat - (i + 1), by omega, rfl, hlt4, q⟩, fun x H5 y => ?_⟩
                obtain ⟨rfl, rfl⟩ := y
                refine ⟨rfl, ?_⟩
                dsimp only [tYes]
                rw [if_pos rfl]
                refine ⟨_, h4, small1000 (by rw [List.length_map, List.length_replicate]; omega), fun c u e => ?_, ?_⟩
                · rw [upd_ne (fun z => by rw [z, nS] at e; cases e)]
                  exact s4 c u e
                · rw [upd_same, repl_succ, List.map_append]
                  rfl
              · have ei : i = d.toNat := by omega
                subst ei
                refine .inl ⟨Nat.le_refl _, ?_⟩
                have e3p : H3 p = some (.ins a.C dx (putF "_holders" (.ref dH) (putF "_states" (.ref D) []))) := by rw [← eH3]; exact upd_same
                refine ⟨_, rfl, p, a.C, dx, _, rfl, s4 _ _ e3p, T.cl, T.na_stages, by show 2 < 1000; decide, ?_⟩
                -- self._lent
                have nap : aS ≠ p := Ne.symm npS
                generalize eH6 : upd H4 p _ = H6
                have e6p : H6 p = some (.ins a.C dx (putF "_stages" (.ref aS) (putF "_holders" (.ref dH) (putF "_states" (.ref D) [])))) := by rw [← eH6]; exact upd_same
                have e6S : H6 aS = some (.lst ((List.replicate d.toNat ("going" : Str)).map V.str)) := by rw [← eH6, upd_ne nap]; exact h4
                have e6D : H6 D = some (.dK (stK t.toNat fun _ => "free")) := by rw [← eH6, upd_ne npD.symm]; exact s4 _ _ (by rw [← eH3, upd_ne npD.symm, upd_ne nDH, upd_ne npD.symm]; exact h1)
                have e6H : H6 dH = some (.dK []) := by rw [← eH6, upd_ne npH.symm]; exact s4 _ _ (by rw [← eH3, upd_ne npH.symm]; exact upd_same)
                have nH0 : H dH = none := s1.free nH1
                have nS0 : H aS = none := s1.free (by rw [← eH3, upd_ne nap, upd_ne nHS.symm, upd_ne nap] at nS; exact nS)
                have k6 : Keep [p] H H6 := fun c u e hc => by
                  have cp : c ≠ p := fun z => hc (by rw [z]; exact List.mem_singleton.mpr rfl)
                  rw [← eH6, upd_ne cp]
                  refine s4 _ _ ?_
                  rw [← eH3, upd_ne cp, upd_ne (fun z => by rw [z, nH0] at e; cases e), upd_ne cp]
                  exact s1 _ _ e
                refine ⟨_, rfl, d, rfl, by omega, by omega, fun aL nL => ?_⟩
                refine ⟨fun i m H' => m = d.toNat - i ∧ i ≤ d.toNat ∧ Same H6 H' ∧ ∃ ls : List Addr, ls.length = i ∧ ls.Nodup ∧ aL ∉ ls ∧ (∀ l ∈ ls, H6 l = none ∧ H' l = some (.lst [])) ∧ H' aL = some (.lst (ls.map V.ref)),
                  ⟨d.toNat, rfl, Nat.zero_le _, same_upd nL, [], rfl, List.nodup_nil, by simp, (fun l hl => by cases hl), upd_same⟩, ?_⟩
                rintro i m H7 ⟨rfl, hi7, s7, ls, l1, l2, l3, l4, l5⟩
                by_cases hlt7 : i < d.toNat
                · refine .inr ⟨hlt7, fun H' => Same H6 H' ∧ ∃ ls : List Addr, ls.length = i + 1 ∧ ls.Nodup ∧ aL ∉ ls ∧ (∀ l ∈ ls, H6 l = none ∧ H' l = some (.lst [])) ∧ H' aL = some (.lst (ls.map V.ref)), fun H' q => ⟨d.toNat - (i + 1), by omega, rfl, hlt7, q⟩, fun x H8 y => ?_⟩
                  obtain ⟨rfl, rfl⟩ := y
                  refine ⟨rfl, ?_⟩
                  dsimp only [tYes]
                  rw [if_pos rfl]
                  refine ⟨Nat.zero_le _, fun l nl => ?_⟩
                  have laL : l ≠ aL := fun z => by rw [z, l5] at nl; cases nl
                  have lls : l ∉ ls := fun z => by rw [(l4 l z).2] at nl; cases nl
                  have nl6 : H6 l = none := s7.free nl
                  refine ⟨_, by rw [upd_ne laL.symm]; exact l5, small1000 (by rw [List.length_map]; omega), fun c u e => ?_, ls ++ [l], by rw [List.length_append, l1]; rfl, ?_, ?_, fun l' hl' => ?_, ?_⟩
                  · rw [upd_ne (fun z => by rw [z, nL] at e; cases e), upd_ne (fun z => by rw [z, nl6] at e; cases e)]
                    exact s7 c u e
                  · exact List.nodup_append.mpr ⟨l2, by simp, fun x hx y hy z => lls (by rw [← List.mem_singleton.mp hy, ← z]; exact hx)⟩
                  · intro z
                    rcases List.mem_append.mp z with z | z
                    · exact l3 z
                    · exact laL (List.mem_singleton.mp z).symm
                  · rcases List.mem_append.mp hl' with z | z
                    · refine ⟨(l4 l' z).1, ?_⟩
                      rw [upd_ne (fun q => l3 (by rw [← q]; exact z)), upd_ne (fun q => lls (by rw [← q]; exact z))]
                      exact (l4 l' z).2
                    · have z := List.mem_singleton.mp z
                      subst z
                      exact ⟨nl6, by rw [upd_ne laL]; exact upd_same⟩
                  · rw [upd_same, List.map_append]
                    rfl
                · have ei : i = d.toNat := by omega
                  refine .inl ⟨by show d.toNat ≤ i; omega, ?_⟩
                  have s7p := s7 _ _ e6p
                  refine ⟨_, rfl, p, a.C, dx, _, rfl, s7p, T.cl, T.na_lent, by show 3 < 1000; decide, ?_⟩
                  have nLp : aL ≠ p := fun z => by rw [z, e6p] at nL; cases nL
                  have nLD : aL ≠ D := fun z => by rw [z, e6D] at nL; cases nL
                  have nLH : aL ≠ dH := fun z => by rw [z, e6H] at nL; cases nL
                  have nLS : aL ≠ aS := fun z => by rw [z, e6S] at nL; cases nL
                  have no : ∀ c u, H6 c = some u → c ∉ ls := fun c u e z => by rw [(l4 c z).1] at e; cases e
                  have f6 : ∀ c, H6 c = none → c ≠ p → H c = none := fun c hc cp => k6.free hc (fun z => cp (List.mem_singleton.mp z))
                  refine k3 ⟨by omega, by omega⟩ ⟨by omega, by omega⟩ ⟨p, dx, D, dH, aS, aL, ls⟩ _ rfl rfl (fun c hc => ?_) (fun c u e hc => ?_) ⟨upd_same, ?_, ⟨[], ?_, List.nodup_nil, fun n => rfl, fun x => rfl⟩, ?_, ?_, ?_, fun i' l ns e1 e2 => ?_, ?_⟩
                  · simp only [Fp.foot, List.mem_cons] at hc
                    rcases hc with rfl | rfl | rfl | rfl | rfl | hc
                    · exact .inl rfl
                    · exact .inr nD
                    · exact .inr nH0
                    · exact .inr nS0
                    · exact .inr (f6 _ nL nLp)
                    · exact .inr (f6 _ (l4 c hc).1 fun z => no p _ e6p (by rw [← z]; exact hc))
                  · rw [upd_ne (fun z => hc (by rw [z]; exact List.mem_singleton.mpr rfl))]
                    exact s7 _ _ (k6 c u e hc)
                  · show upd H7 p _ D = _
                    rw [upd_ne npD.symm]
                    exact s7 _ _ e6D
                  · show upd H7 p _ dH = _
                    rw [upd_ne npH.symm]
                    exact s7 _ _ e6H
                  · show upd H7 p _ aS = _
                    rw [upd_ne nap]
                    exact s7 _ _ e6S
                  · show upd H7 p _ aL = _
                    rw [upd_ne nLp]
                    exact l5
                  · show ls.length = (List.replicate d.toNat ([] : List Int)).length
                    rw [List.length_replicate]
                    omega
                  · have e1 : ls[i']? = some l := e1
                    have e2 : (List.replicate d.toNat ([] : List Int))[i']? = some ns := e2
                    have hm := List.mem_of_getElem? e1
                    have : ns = [] := (List.mem_replicate.mp (List.mem_of_getElem? e2)).2
                    subst this
                    rw [upd_ne (fun z => no p _ e6p (by rw [← z]; exact hm))]
                    exact (l4 l hm).2
                  · show (p :: D :: dH :: aS :: aL :: ls).Nodup
                    simp only [List.nodup_cons, List.mem_cons, not_or]
                    exact ⟨⟨npD, npH, npS, nLp.symm, no _ _ e6p⟩, ⟨nDH, nDS, nLD.symm, no _ _ e6D⟩, ⟨nHS, nLH.symm, no _ _ e6H⟩, ⟨nLS.symm, no _ _ e6S⟩, l3, l2⟩
end
end Nu
namespace Nu
open PySem PySem.Spec PyProof.Rows L2
/-- the draws' state s, of the script sc -/
structure Drw (K : PySem.W.Frag) (H : Hp) (s sc : Addr) (ns : List Int) : Prop where
  sq : SqL K (fun _ => none) sc (ns.map V.int) ∨ (Rd H sc (.lst (ns.map V.int)) ∧ sc ≠ s)
  at_ : ∃ i m r : Int, H s = some (.lst [.ref sc, .int i, .int m, .int r]) ∧ 0 ≤ i ∧ 0 ≤ m ∧ 0 ≤ r
theorem sq_written {K : PySem.W.Frag} {H : Hp} {c : Addr} {xs : List V} (h : SqL K (fun _ => none) c xs) : SqL K H c xs := by
  rcases h with (h | ⟨o, h⟩) | h
  · cases h
  · cases h
  · exact .inr h
theorem Drw.seq {K : PySem.W.Frag} {H : Hp} {s sc : Addr} {ns : List Int} (d : Drw K H s sc ns) : SqL K H sc (ns.map V.int) := d.sq.elim sq_written fun h => .inl h.1
theorem Keep.rd {F : List Addr} {H H' : Hp} {c : Addr} {u : HO} (k : Keep F H H') (h : Rd H c u) (hc : c ∉ F) : Rd H' c u := by
  rcases h with h | ⟨o, h⟩
  · exact .inl (k _ _ h hc)
  · exact .inr ⟨o, k _ _ h hc⟩
/-- the state's own list changed -/
theorem Drw.upd {K : PySem.W.Frag} {H : Hp} {s sc : Addr} {ns : List Int} (d : Drw K H s sc ns) {i m r : Int} (hi : 0 ≤ i) (hm : 0 ≤ m) (hr : 0 ≤ r) : Drw K (L2.upd H s (.lst [.ref sc, .int i, .int m, .int r])) s sc ns :=
  ⟨d.sq.elim .inl fun h => .inr ⟨(keep_upd (F := [s]) (.inl (List.mem_singleton.mpr rfl))).rd h.1 (fun z => h.2 (List.mem_singleton.mp z)), h.2⟩, i, m, r, upd_same, hi, hm, hr⟩
theorem Drw.stay {K : PySem.W.Frag} {H H' : Hp} {s sc : Addr} {ns : List Int} {F : List Addr} (d : Drw K H s sc ns) (k : Keep F H H') (h1 : s ∉ F) (h2 : H sc ≠ none → sc ∉ F) : Drw K H' s sc ns := by
  obtain ⟨i, m, r, e, h⟩ := d.at_
  refine ⟨d.sq.elim .inl fun q => .inr ⟨k.rd q.1 (h2 ?_), q.2⟩, i, m, r, k _ _ e h1, h⟩
  rcases q.1 with z | ⟨o, z⟩ <;> rw [z] <;> simp
section
variable {P : Program} {w : World} {K : PySem.W.Frag} {mg : Str → Option Value} {base : Heap} {a : Ad} {fd : Fd}
def spStart (K : PySem.W.Frag) : Sp := fun vs H Q _ => ∃ (sc : Addr) (ns : List Int), vs = [.ref sc] ∧ SqL K H sc (ns.map V.int) ∧ ∀ s H', H s = none → Same H H' → Drw K H' s sc ns → Q (.ref s) H'
theorem ok_l_start (T : Txt K mg a fd) : FnOk P w K mg base CX0 1 a.l_start fd.l_start ["_law_script"] (spStart K) := by
  refine T.F_l_start.ok sc_l_start (fun vs H Q E h => ?_) (fun cdv A outer s H vs Q E hr h => ?_)
  · obtain ⟨sc, ns, rfl, _⟩ := h
    rfl
  · obtain ⟨sc, ns, rfl, hS, k⟩ := h
    refine ⟨_, (pss_cons (ps_set (i := 1) sc_l_start.nd rfl (Or.inl rfl) pe_int)
    (pss_cons (ps_for PassesOwn.never rfl (pi_list (pv 0)) (pg_name (i := 2) sc_l_start.nd rfl (Or.inl rfl))
      (pss_one (ps_set (i := 1) sc_l_start.nd rfl (Or.inl rfl) (pe_op op_mod (pe_op op_add (pe_op op_add (pe_op op_mul (pv 1) pe_int) (pv 2)) pe_int) pe_int))))
    (pss_one (ps_ret (pe_lst (pa_cons (pv 0) (pa_cons pe_int (pa_cons (pv 1) (pa_cons pe_int pa_nil))))))))), ?_⟩
    refine ⟨_, rfl, sc, rfl, ⟨_, hS⟩, for_list (K := K) (a := sc) (xs := ns.map V.int) (fun i σ H' => ∃ (m : Int) (v : Option V), σ = [some (.ref sc), some (.int m), v] ∧ H' = H ∧ 0 ≤ m) ⟨1, none, rfl, rfl, by decide⟩ (fun i σ H' _ ⟨_, _, _, e, _⟩ => by rw [e]; exact hS) ?_ ?_⟩
    · rintro i x σ H' hi ⟨m, v, rfl, rfl, hm⟩
      obtain ⟨n, hn, rfl⟩ := map_int_at hi
      refine ⟨_, rfl, _, _, rfl, rfl, .inr (by decide), _, rfl, _, _, rfl, rfl, _, _, rfl, rfl, _, _, rfl, rfl, (by show (0 : Int) < 2147483647; decide), ?_⟩
      exact ⟨_, _, rfl, rfl, Int.emod_nonneg _ (by decide)⟩
    · rintro σ H' ⟨m, v, rfl, rfl, hm⟩
      refine ⟨_, rfl, _, rfl, (by show 4 ≤ sizeLine; decide), fun s ns' => ?_⟩
      refine k s _ ns' (same_upd ns') ⟨?_, 0, m, 0, upd_same, by decide, hm, by decide⟩
      rcases hS with hS | hS
      · refine .inr ⟨(Keep.same (F := []) (same_upd ns')).rd hS (by simp), fun z => ?_⟩
        rcases hS with q | ⟨o, q⟩ <;> rw [z, ns'] at q <;> cases q
      · exact .inl (.inr hS)
def spDrawn (K : PySem.W.Frag) : Sp := fun vs H Q _ => ∃ (s sc : Addr) (ns : List Int) (n : Int), vs = [.ref s, .int n] ∧ Drw K H s sc ns ∧ 1 ≤ n ∧ n.natAbs.log2 < 9000 ∧ ∀ v H', 0 ≤ v → v < n → Keep [s] H H' → Drw K H' s sc ns → Q (.int v) H'
theorem at0 {α : Type} {x0 x1 x2 x3 : α} : atI [x0, x1, x2, x3] 0 = some x0 := rfl
theorem at1 {α : Type} {x0 x1 x2 x3 : α} : atI [x0, x1, x2, x3] 1 = some x1 := rfl
theorem at2 {α : Type} {x0 x1 x2 x3 : α} : atI [x0, x1, x2, x3] 2 = some x2 := rfl
theorem at3 {α : Type} {x0 x1 x2 x3 : α} : atI [x0, x1, x2, x3] 3 = some x3 := rfl
theorem ok_l_drawn (T : Txt K mg a fd) : FnOk P w K mg base CX0 1 a.l_drawn fd.l_drawn ["_law_state", "_law_many"] (spDrawn K) := by
  refine T.F_l_drawn.ok sc_l_drawn (fun vs H Q E h => ?_) (fun cdv A outer s H vs Q E hr h => ?_)
  · obtain ⟨s, sc, ns, n, rfl, _⟩ := h
    rfl
  · obtain ⟨s, sc, ns, n, rfl, D, hn, hlog, k⟩ := h
    obtain ⟨i, m, r, e, i0, m0, r0⟩ := D.at_
    have n0 : (0 : Int) < n := by omega
    have kp : ∀ (H : Hp) (u : HO), Keep [s] H (upd H s u) := fun H u => keep_upd (.inl (List.mem_singleton.mpr rfl))
    refine ⟨_, (pss_cons (ps_if (pt_cmpR op_gt (pe_ix ix_list (pv 0) pe_int (fun _ _ => rfl)) pe_int (nomark _)) (pss_cons (ps_set (i := 2) sc_l_drawn.nd rfl (Or.inl rfl) (pe_op op_mod (pe_ix ix_list (pv 0) pe_int (fun _ _ => rfl)) (pv 1)))
    (pss_cons (ps_asg (pe_op op_fdivW (pe_ix ix_list (pv 0) pe_int (fun _ _ => rfl)) (pv 1)) (pg_sub (pv 0) pe_int set_list))
    (pss_one (ps_ret (pv 2))))) pss_nil)
    (pss_cons (ps_asg (pe_op op_add (pe_ix ix_list (pv 0) pe_int (fun _ _ => rfl)) pe_int) (pg_sub (pv 0) pe_int set_list))
    (pss_cons (ps_if (pt_cmpR op_le (pe_ix ix_list (pv 0) pe_int (fun _ _ => rfl)) (pe_callB call_len_seq (by rfl) T.n_len PySem.boot_len (pa_cons (pe_ix ix_list (pv 0) pe_int (fun _ _ => rfl)) pa_nil)) (nomark _)) (pss_cons (ps_set (i := 3) sc_l_drawn.nd rfl (Or.inl rfl) (pe_ix ix_list (pe_ix ix_list (pv 0) pe_int (fun _ _ => rfl)) (pe_op op_sub (pe_ix ix_list (pv 0) pe_int (fun _ _ => rfl)) pe_int) (fun _ _ => rfl)))
    (pss_cons (ps_asg (pe_ifExp (pt_cmpR op_ge (pv 3) (pe_op op_pow pe_int pe_int) (nomark _)) (pe_op op_fdivW (pv 3) (pv 1)) pe_int) (pg_sub (pv 0) pe_int set_list))
    (pss_one (ps_ret (pe_op op_mod (pv 3) (pv 1)))))) pss_nil)
    (pss_cons (ps_asg (pe_op op_mod (pe_op op_add (pe_op op_mul (pe_ix ix_list (pv 0) pe_int (fun _ _ => rfl)) pe_int) pe_int) pe_int) (pg_sub (pv 0) pe_int set_list))
    (pss_one (ps_ret (pe_op op_mod (pe_op op_fdiv (pe_ix ix_list (pv 0) pe_int (fun _ _ => rfl)) pe_int) (pv 1)))))))), ?_⟩
    refine ⟨_, rfl, s, _, 3, _, rfl, rfl, SqL.of e, at3, _, _, rfl, rfl, _, rfl, ?_⟩
    by_cases c : 0 < r
    · rw [decide_eq_true c]
      refine iteT ?_
      refine ⟨_, rfl, s, _, 3, _, rfl, rfl, SqL.of e, at3, _, rfl, _, _, rfl, rfl, n0, ?_⟩
      refine ⟨_, rfl, s, _, 3, _, rfl, rfl, SqL.of e, at3, _, rfl, _, _, rfl, rfl, ⟨n0, hlog⟩, ?_⟩
      refine ⟨_, rfl, s, _, 3, 3, rfl, rfl, e, rfl, ?_⟩
      refine ⟨_, rfl, k _ _ (Int.emod_nonneg _ (by omega)) (Int.emod_lt_of_pos _ n0) (kp _ _) (D.upd i0 m0 (Int.ediv_nonneg r0 (by omega)))⟩
    · rw [decide_eq_false c]
      refine iteF ?_
      refine ⟨_, rfl, s, _, 1, _, rfl, rfl, SqL.of e, at1, _, _, rfl, rfl, ?_⟩
      refine ⟨_, rfl, s, _, 1, 1, rfl, rfl, e, rfl, ?_⟩
      have e1 : (upd H s (.lst ([V.ref sc, V.int i, V.int m, V.int r].set 1 (V.int (i + 1))))) s = some (.lst [.ref sc, .int (i + 1), .int m, .int r]) := upd_same
      have D1 : Drw K (upd H s (.lst ([V.ref sc, V.int i, V.int m, V.int r].set 1 (V.int (i + 1))))) s sc ns := D.upd (i := i + 1) (by omega) m0 r0
      have sq1 := D1.seq
      refine ⟨_, rfl, s, _, 1, _, rfl, rfl, SqL.of e1, at1, _, rfl, s, _, 0, _, rfl, rfl, SqL.of e1, at0, sc, _, rfl, .inl sq1, _, _, rfl, rfl, _, rfl, ?_⟩
      by_cases c2 : i + 1 ≤ ((ns.map V.int).length : Int)
      · rw [decide_eq_true c2]
        refine iteT ?_
        rw [List.length_map] at c2
        obtain ⟨j, rfl⟩ := Int.eq_ofNat_of_zero_le i0
        have hj : j < ns.length := by omega
        have hc : (ns.map V.int)[j]? = some (V.int ns[j]) := by rw [List.getElem?_map, List.getElem?_eq_getElem hj]; rfl
        refine ⟨_, rfl, s, _, 0, _, rfl, rfl, SqL.of e1, at0, _, rfl, s, _, 1, _, rfl, rfl, SqL.of e1, at1, _, _, rfl, rfl, sc, _, _, _, rfl, rfl, sq1, (by rw [show (j : Int) + 1 - 1 = (j : Int) by omega]; exact atI_nat hc), ?_⟩
        refine ⟨_, rfl, _, _, rfl, rfl, ⟨by decide, by decide, by decide⟩, _, _, rfl, rfl, _, rfl, ?_⟩
        by_cases c3 : (10 : Int) ^ (18 : Int).toNat ≤ ns[j]
        · rw [decide_eq_true c3]
          refine iteT ?_
          refine ⟨_, rfl, _, rfl, _, _, rfl, rfl, ⟨n0, hlog⟩, ?_⟩
          refine ⟨_, rfl, s, _, 3, 3, rfl, rfl, e1, rfl, ?_⟩
          refine ⟨_, rfl, _, rfl, _, _, rfl, rfl, n0, ?_⟩
          exact k _ _ (Int.emod_nonneg _ (by omega)) (Int.emod_lt_of_pos _ n0) ((kp _ _).trans (kp _ _)) (D1.upd (by omega) m0 (Int.ediv_nonneg (Int.le_trans (by decide) c3) (by omega)))
        · rw [decide_eq_false c3]
          refine iteF ?_
          refine ⟨_, rfl, s, _, 3, 3, rfl, rfl, e1, rfl, ?_⟩
          refine ⟨_, rfl, _, rfl, _, _, rfl, rfl, n0, ?_⟩
          exact k _ _ (Int.emod_nonneg _ (by omega)) (Int.emod_lt_of_pos _ n0) ((kp _ _).trans (kp _ _)) (D1.upd (by omega) m0 (Int.le_refl _))
      · rw [decide_eq_false c2]
        refine iteF ?_
        refine ⟨_, rfl, s, _, 2, _, rfl, rfl, SqL.of e1, at2, _, _, rfl, rfl, .inr (by decide), _, _, rfl, rfl, _, _, rfl, rfl, (by show (0 : Int) < 2147483647; decide), ?_⟩
        refine ⟨_, rfl, s, _, 2, 2, rfl, rfl, e1, rfl, ?_⟩
        refine ⟨_, rfl, s, _, 2, _, rfl, rfl, SqL.of upd_same, at2, _, _, rfl, rfl, ⟨by decide, by decide⟩, _, rfl, _, _, rfl, rfl, n0, ?_⟩
        exact k _ _ (Int.emod_nonneg _ (by omega)) (Int.emod_lt_of_pos _ n0) ((kp _ _).trans (kp _ _)) (D1.upd (by omega) (Int.emod_nonneg _ (by decide)) r0)
end
end Nu
namespace Nu
open PySem PySem.Spec PyProof.Rows L2
section
variable {X : Cx} {K : PySem.W.Frag}
theorem ixL_K (h : X.K = K) : IxR X (rIxL K) := h ▸ ix_list
theorem ixT_K (h : X.K = K) : IxR X (rIxT K) := h ▸ ix_tup
theorem ixS_K (h : X.K = K) : IxR X (rIx K) := h ▸ ix_seq
theorem inSeq_K (h : X.K = K) : OpR X (compareOp .In) (rIn K false) := h ▸ op_in_seq
theorem notInSeq_K (h : X.K = K) : OpR X (compareOp .NotIn) (rIn K true) := h ▸ op_notIn_seq
theorem pe_fldK {e : Expr} {f : Str} {pos : Pos} {ta : TE} (h : X.K = K) (he : PE X e ta) (hb : attributeBase e f X.env (eval e X.env) = eval e X.env) : PE X (.Attribute e f pos) (tFld K ta f) := h ▸ pe_fld he hb
end
/-- a list (b true) or a tuple at p -/
def SqB (H : Hp) (p : Addr) (xs : List V) (b : Bool) : Prop := H p = some (if b = true then .lst xs else .tup xs)
/-- the same data, at most n deep -/
def SmD (H : Hp) : Nat → V → V → Prop
  | 0, _, _ => False
  | n + 1, x, y => (x = y ∧ flatV y = true) ∨ ∃ p q xs ys b, x = .ref p ∧ y = .ref q ∧ SqB H p xs b ∧ SqB H q ys b ∧ xs.length = ys.length ∧ xs.length ≤ 1000 ∧ ∀ (i : Nat) (u v : V), xs[i]? = some u → ys[i]? = some v → SmD H n u v
theorem SmD.same {H H' : Hp} (s : Same H H') : ∀ (n : Nat) (x y : V), SmD H n x y → SmD H' n x y
  | 0, _, _, h => h.elim
  | n + 1, x, y, h => by
    rcases h with h | ⟨p, q, xs, ys, b, e1, e2, h1, h2, h3, h4, h5⟩
    · exact .inl h
    · exact .inr ⟨p, q, xs, ys, b, e1, e2, s _ _ h1, s _ _ h2, h3, h4, fun i u v a c => SmD.same s n u v (h5 i u v a c)⟩
theorem SqB.seq {K : PySem.W.Frag} {H : Hp} {p : Addr} {xs : List V} {b : Bool} (h : SqB H p xs b) : SqL K H p xs ∨ SqT K H p xs := by
  cases b with
  | true => exact .inl (SqL.of h)
  | false => exact .inr (SqT.of h)
theorem rix_seq {K : PySem.W.Frag} {H : Hp} {p : Addr} {xs : List V} {b : Bool} {j : Nat} {v : V} {Q : VK} (h : SqB H p xs b) (e : xs[j]? = some v) (q : Q v H) : rIx K (.ref p) (.int (j : Int)) H Q := by
  cases b with
  | true => exact .inl ⟨p, xs, _, v, rfl, rfl, SqL.of h, atI_nat e, q⟩
  | false => exact .inr (.inl ⟨p, xs, _, v, rfl, rfl, SqT.of h, atI_nat e, q⟩)
theorem notTL {K : PySem.W.Frag} {n : String} (h1 : kitB n "tuple" = some false) (h2 : kitB n "list" = some false) : PySem.W.kitAny K (.type n) [.type "tuple", .type "list"] = some false :=
  kitAny_cons (kit_ty h1) (fun _ => kitAny_cons (kit_ty h2) (fun _ => kitAny_nil) (fun z => by cases z)) (fun z => by cases z)
theorem isTL {K : PySem.W.Frag} (b : Bool) : PySem.W.kitAny K (.type (if b = true then "list" else "tuple")) [.type "tuple", .type "list"] = some true := by
  cases b with
  | true => exact kitAny_cons (kit_ty (r := false) (by decide +kernel)) (fun _ => kitAny_cons (kit_ty (r := true) (by decide +kernel)) (fun z => by cases z) (fun _ => rfl)) (fun z => by cases z)
  | false => exact kitAny_cons (kit_ty (r := true) (by decide +kernel)) (fun z => by cases z) (fun _ => rfl)
theorem isL {K : PySem.W.Frag} (b : Bool) : PySem.W.kitOne K (.type (if b = true then "list" else "tuple")) (.type "list") = some b := by
  cases b with
  | true => exact kit_ty (by decide +kernel)
  | false => exact kit_ty (by decide +kernel)
theorem tyB {K : PySem.W.Frag} {H : Hp} {p : Addr} {xs : List V} {b : Bool} (h : SqB H p xs b) : TyX K H (.ref p) (.type (if b = true then "list" else "tuple")) := by
  cases b with
  | true => exact .base (.lst h)
  | false => exact .base (.tup h)
theorem SqB.upd_new {H : Hp} {p t : Addr} {xs : List V} {b : Bool} {o : HO} (h : SqB H p xs b) (ht : H t = none) : SqB (upd H t o) p xs b := same_upd ht _ _ h
theorem tl_paired : Paired ClsV [.ty "tuple", .ty "list"] [.type "tuple", .type "list"] := .cons (.ty "tuple") (.cons (.ty "list") .nil)
section
variable {P : Program} {w : World} {K : PySem.W.Frag} {mg : Str → Option Value} {base : Heap} {a : Ad} {fd : Fd}
def spSame (n : Nat) : Sp := fun vs H Q _ => ∃ (x y : V), vs = [x, y] ∧ SmD H n x y ∧ ∀ H', Same H H' → Q (.bl true) H'
theorem ok_l_same (T : Txt K mg a fd) : ∀ n : Nat, FnOk P w K mg base CX0 (n + 1) a.l_same fd.l_same ["_law_found", "_law_due"] (spSame n)
  | 0 => by
    refine T.F_l_same.ok sc_l_same (fun vs H Q E h => ?_) (fun cdv A outer s H vs Q E hr h => ?_)
    · obtain ⟨x, y, rfl, _⟩ := h
      rfl
    · obtain ⟨x, y, rfl, h, _⟩ := h
      exact h.elim
  | n + 1 => by
    have G_l_same := ok_l_same T n
    refine T.F_l_same.ok sc_l_same (fun vs H Q E h => ?_) (fun cdv A outer s H vs Q E hr h => ?_)
    · obtain ⟨x, y, rfl, _⟩ := h
      rfl
    · obtain ⟨x, y, rfl, h, k⟩ := h
      refine ⟨_, (pss_cons (ps_if (pt_val (pe_callB call_isiT (by rfl) T.n_isinstance (by decide +kernel) (pa_cons (pv 1) (pa_cons (pe_tup (pa_cons (pe_bltn (v := .ty "tuple") (by rfl) T.n_tuple (by decide +kernel) rfl) (pa_cons (pe_bltn (v := .ty "list") (by rfl) T.n_list (by decide +kernel) rfl) pa_nil))) pa_nil)))) (pss_cons (ps_if (PW.pt (pw_or (pt_not (pt_val (pe_callB call_isiT (by rfl) T.n_isinstance (by decide +kernel) (pa_cons (pv 0) (pa_cons (pe_tup (pa_cons (pe_bltn (v := .ty "tuple") (by rfl) T.n_tuple (by decide +kernel) rfl) (pa_cons (pe_bltn (v := .ty "list") (by rfl) T.n_list (by decide +kernel) rfl) pa_nil))) pa_nil))))) (pw_or1 (pt_cmpR op_ne (pe_callB call_isi (by rfl) T.n_isinstance (by decide +kernel) (pa_cons (pv 0) (pa_cons (pe_bltn (v := .ty "list") (by rfl) T.n_list (by decide +kernel) rfl) pa_nil))) (pe_callB call_isi (by rfl) T.n_isinstance (by decide +kernel) (pa_cons (pv 1) (pa_cons (pe_bltn (v := .ty "list") (by rfl) T.n_list (by decide +kernel) rfl) pa_nil))) (nomark _))))) (pss_one (ps_ret pe_bl)) pss_nil)
    (pss_cons (ps_if (pt_cmpR op_ne (pe_callB call_len_seq (by rfl) T.n_len PySem.boot_len (pa_cons (pv 0) pa_nil)) (pe_callB call_len_seq (by rfl) T.n_len PySem.boot_len (pa_cons (pv 1) pa_nil)) (nomark _)) (pss_one (ps_ret pe_bl)) pss_nil)
    (pss_one (ps_ret (pe_cmpR (op_eqD hr.units) (pe_lc (own := [("_law_k", 2)]) (g := gName 2) (by rfl) sc_l_same.nd (pi_range1 (by rfl) T.n_range (pa_cons (pe_callB call_len_seq (by rfl) T.n_len PySem.boot_len (pa_cons (pv 1) pa_nil)) pa_nil)) (blkOk_by (own := [("_law_k", 2)]) (N := ["_law_found", "_law_due", "_law_k"]) (sc := defScope s_l_same) (by decide +kernel)) (fun _ _ _ _ _ => pg_name (i := 2) sc_l_same.nd rfl (Or.inl rfl)) (fun _ _ _ _ _ => (pts_one (pt_not (pt_val (pe_call G_l_same hr (by rfl) T.g_l_same T.F_l_same.kp T.b_l_same .nil pass0 (pa_cons (pe_ix (ixS_K (K := K) rfl) (pv 0) (pv 2) (fun _ _ => rfl)) (pa_cons (pe_ix (ixS_K (K := K) rfl) (pv 1) (pv 2) (fun _ _ => rfl)) pa_nil))))))) (fun _ _ _ _ _ => (pv 2))) (pe_lst pa_nil) (nomark _)))))) pss_nil)
    (pss_cons (ps_if (pt_cmpR op_isN (pv 1) pe_non (nomark _)) (pss_one (ps_ret (pe_cmpR op_isN (pv 0) pe_non (nomark _)))) pss_nil)
    (pss_cons (ps_if (pt_val (pe_callB call_isi (by rfl) T.n_isinstance (by decide +kernel) (pa_cons (pv 1) (pa_cons (pe_bltn (v := .ty "str") (by rfl) T.n_str (by decide +kernel) rfl) pa_nil)))) (pss_one (ps_ret (pe_and (pe_callB call_isi (by rfl) T.n_isinstance (by decide +kernel) (pa_cons (pv 0) (pa_cons (pe_bltn (v := .ty "str") (by rfl) T.n_str (by decide +kernel) rfl) pa_nil))) (pe_one (pe_cmpR op_eq (pv 0) (pv 1) (nomark _)))))) pss_nil)
    (pss_cons (ps_if (PW.pt (pw_or (pt_val (pe_callB call_isi (by rfl) T.n_isinstance (by decide +kernel) (pa_cons (pv 1) (pa_cons (pe_bltn (v := .ty "bool") (by rfl) T.n_bool (by decide +kernel) rfl) pa_nil)))) (pw_or1 (pt_val (pe_callB call_isi (by rfl) T.n_isinstance (by decide +kernel) (pa_cons (pv 0) (pa_cons (pe_bltn (v := .ty "bool") (by rfl) T.n_bool (by decide +kernel) rfl) pa_nil))))))) (pss_one (ps_ret (pe_and (pe_callB call_isi (by rfl) T.n_isinstance (by decide +kernel) (pa_cons (pv 1) (pa_cons (pe_bltn (v := .ty "bool") (by rfl) T.n_bool (by decide +kernel) rfl) pa_nil))) (pe_and (pe_callB call_isi (by rfl) T.n_isinstance (by decide +kernel) (pa_cons (pv 0) (pa_cons (pe_bltn (v := .ty "bool") (by rfl) T.n_bool (by decide +kernel) rfl) pa_nil))) (pe_one (pe_cmpR op_eq (pv 0) (pv 1) (nomark _))))))) pss_nil)
    (pss_one (ps_ret (pe_and (pe_callB call_isi (by rfl) T.n_isinstance (by decide +kernel) (pa_cons (pv 0) (pa_cons (pe_bltn (v := .ty "int") (by rfl) T.n_int (by decide +kernel) rfl) pa_nil))) (pe_one (pe_cmpR op_eq (pv 0) (pv 1) (nomark _)))))))))), ?_⟩
      rcases h with ⟨rfl, hf⟩ | ⟨p, q, xs, ys, b, rfl, rfl, h1, h2, h3, h4, h5⟩
      · -- a number, a text, a truth, nothing
        cases x with
        | non =>
          refine ⟨_, rfl, (by show 2 ≤ sizeLine; decide), fun t ht => ⟨_, t, _, _, _, _, rfl, upd_same, tl_paired, .base .non, notTL (by decide +kernel) (by decide +kernel), _, rfl, iteF ?_⟩⟩
          refine ⟨_, rfl, rfl, _, rfl, iteT ?_⟩
          exact ⟨_, rfl, rfl, k _ (same_upd ht)⟩
        | bl c =>
          refine ⟨_, rfl, (by show 2 ≤ sizeLine; decide), fun t ht => ⟨_, t, _, _, _, _, rfl, upd_same, tl_paired, .base (.bl c), notTL (by decide +kernel) (by decide +kernel), _, rfl, iteF ?_⟩⟩
          refine ⟨_, rfl, rfl, _, rfl, iteF ?_⟩
          refine ⟨_, rfl, _, _, _, _, _, rfl, .ty "str", .base (.bl c), kit_ty (r := false) (by decide +kernel), _, rfl, iteF ?_⟩
          refine ⟨_, rfl, _, _, _, _, _, rfl, .ty "bool", .base (.bl c), kit_ty (r := true) (by decide +kernel), _, rfl, iteT (iteT ?_)⟩
          refine ⟨_, rfl, _, _, _, _, _, rfl, .ty "bool", .base (.bl c), kit_ty (r := true) (by decide +kernel), _, rfl, iteT ?_⟩
          refine ⟨_, rfl, _, _, _, _, _, rfl, .ty "bool", .base (.bl c), kit_ty (r := true) (by decide +kernel), _, rfl, iteT ?_⟩
          refine ⟨_, rfl, _, rfl, rfl, ?_⟩
          rw [decide_eq_true rfl]
          exact k _ (same_upd ht)
        | int c =>
          refine ⟨_, rfl, (by show 2 ≤ sizeLine; decide), fun t ht => ⟨_, t, _, _, _, _, rfl, upd_same, tl_paired, .base (.int c), notTL (by decide +kernel) (by decide +kernel), _, rfl, iteF ?_⟩⟩
          refine ⟨_, rfl, rfl, _, rfl, iteF ?_⟩
          refine ⟨_, rfl, _, _, _, _, _, rfl, .ty "str", .base (.int c), kit_ty (r := false) (by decide +kernel), _, rfl, iteF ?_⟩
          refine ⟨_, rfl, _, _, _, _, _, rfl, .ty "bool", .base (.int c), kit_ty (r := false) (by decide +kernel), _, rfl, iteF ?_⟩
          refine ⟨_, rfl, _, _, _, _, _, rfl, .ty "bool", .base (.int c), kit_ty (r := false) (by decide +kernel), _, rfl, iteF ?_⟩
          refine ⟨_, rfl, _, _, _, _, _, rfl, .ty "int", .base (.int c), kit_ty (r := true) (by decide +kernel), _, rfl, iteT ?_⟩
          refine ⟨_, rfl, _, rfl, rfl, ?_⟩
          rw [decide_eq_true rfl]
          exact k _ (same_upd ht)
        | str c =>
          refine ⟨_, rfl, (by show 2 ≤ sizeLine; decide), fun t ht => ⟨_, t, _, _, _, _, rfl, upd_same, tl_paired, .base (.str c), notTL (by decide +kernel) (by decide +kernel), _, rfl, iteF ?_⟩⟩
          refine ⟨_, rfl, rfl, _, rfl, iteF ?_⟩
          refine ⟨_, rfl, _, _, _, _, _, rfl, .ty "str", .base (.str c), kit_ty (r := true) (by decide +kernel), _, rfl, iteT ?_⟩
          refine ⟨_, rfl, _, _, _, _, _, rfl, .ty "str", .base (.str c), kit_ty (r := true) (by decide +kernel), _, rfl, iteT ?_⟩
          refine ⟨_, rfl, _, rfl, rfl, ?_⟩
          rw [decide_eq_true rfl]
          exact k _ (same_upd ht)
        | byt c => cases hf
        | flt c => cases hf
        | ref c => cases hf
        | ty c => cases hf
      · -- lists, tuples
        refine ⟨_, rfl, (by show 2 ≤ sizeLine; decide), fun t ht => ⟨_, t, _, _, _, _, rfl, upd_same, tl_paired, tyB (h2.upd_new ht), isTL b, _, rfl, iteT ?_⟩⟩
        have p1 := h1.upd_new (o := .tup [V.ty "tuple", V.ty "list"]) ht
        have q1 := h2.upd_new (o := .tup [V.ty "tuple", V.ty "list"]) ht
        refine ⟨_, rfl, (by show 2 ≤ sizeLine; decide), fun t2 ht2 => ⟨_, t2, _, _, _, _, rfl, upd_same, tl_paired, tyB (p1.upd_new ht2), isTL b, _, rfl, iteF ?_⟩⟩
        have p2 := p1.upd_new (o := .tup [V.ty "tuple", V.ty "list"]) ht2
        have q2 := q1.upd_new (o := .tup [V.ty "tuple", V.ty "list"]) ht2
        have s2 : Same H _ := (same_upd (o := .tup [V.ty "tuple", V.ty "list"]) ht).trans (same_upd (o := .tup [V.ty "tuple", V.ty "list"]) ht2)
        refine ⟨_, rfl, _, _, _, _, _, rfl, .ty "list", tyB p2, isL b, _, rfl, _, _, _, _, _, rfl, .ty "list", tyB q2, isL b, rfl, _, rfl, ?_⟩
        rw [decide_eq_true rfl]
        refine iteF ?_
        refine ⟨_, rfl, p, _, rfl, p2.seq, _, rfl, q, _, rfl, q2.seq, rfl, _, rfl, ?_⟩
        rw [decide_eq_true (by rw [h3])]
        refine iteF ?_
        -- return [..] == []
        refine ⟨_, rfl, q, _, rfl, q2.seq, _, rfl, by omega, by omega, fun D nD => ?_⟩
        refine ⟨fun i m H' => m = ys.length - i ∧ i ≤ ys.length ∧ Same _ H' ∧ H' D = some (.lst []), ⟨ys.length, rfl, Nat.zero_le _, same_upd nD, upd_same⟩, ?_⟩
        rintro i m H3 ⟨rfl, hi, s3, hD⟩
        by_cases hlt : i < ys.length
        · refine .inr ⟨by show i < ((ys.length : Nat) : Int).toNat; omega, fun H' => Same _ H' ∧ H' D = some (.lst []), fun H' q => ⟨ys.length - (i + 1), by omega, rfl, hlt, q⟩, fun x H4 y => ?_⟩
          obtain ⟨rfl, rfl⟩ := y
          refine ⟨rfl, ?_⟩
          have ex : xs[i]? = some (xs[i]'(by omega)) := List.getElem?_eq_getElem _
          have ey : ys[i]? = some ys[i] := List.getElem?_eq_getElem hlt
          have e0 : (0 : Int) + (i : Int) = (i : Int) := by omega
          refine ⟨_, rfl, _, rfl, ?_⟩
          rw [e0]
          refine rix_seq (s3 _ _ p2) ex ⟨_, rfl, _, rfl, ?_⟩
          refine rix_seq (s3 _ _ q2) ey ⟨_, _, rfl, SmD.same (s2.trans s3) _ _ _ (h5 i _ _ ex ey), fun H5 s5 => ⟨_, rfl, iteF ?_⟩⟩
          exact ⟨s3.trans s5, s5 _ _ hD⟩
        · refine .inl ⟨by show ((ys.length : Nat) : Int).toNat ≤ i; omega, ?_⟩
          refine ⟨Nat.zero_le _, fun e ne => ⟨.list [], .list [], .lst (SqL.of ?_) .nil, .lst (SqL.of upd_same) .nil, rfl, rfl, ?_⟩⟩
          · rw [upd_ne (fun z => by rw [z, ne] at hD; cases hD)]
            exact hD
          · exact k _ ((s2.trans s3).trans (same_upd ne))
end
end Nu
namespace Nu
open PySem PySem.Spec PyProof.Rows L2
/-! ### rules: list.count of flat things; isinstance in a suite -/
theorem countP_V {y : V} : ∀ {xs : List V} {us : List Value}, Vals xs us → xs.all flatV = true → us.countP (eqU y) = xs.countP fun z => eqV z y
  | _, _, .nil, _ => rfl
  | x :: xs, u :: us, .cons r t, f => by
    rw [List.all_cons, Bool.and_eq_true] at f
    rw [List.countP_cons, List.countP_cons, countP_V t f.2, eqU_of r f.1]
def rCntF (K : PySem.W.Frag) : V → List V → Hp → VK → Prop := fun x xs H Q => ∃ (p : Addr) (ys : List V) (y : V), x = .ref p ∧ xs = [y] ∧ SqL K H p ys ∧ flatV y = true ∧ ys.all flatV = true ∧ Q (.int ((ys.countP fun z => eqV z y : Nat) : Int)) H
theorem mt_countF {X : Cx} {K : PySem.W.Frag} (hK : X.K = K := by rfl) : MtR X "list.count" (rCntF K) := by
  subst hK
  intro pins s σ H x xs v us Q I rx rxs h
  obtain ⟨p, ys, y, ex, exs, hs, fy, fys, q⟩ := h
  subst ex exs
  cases (show v = Value.ref p from rx)
  obtain ⟨u, rfl, ru⟩ := rxs.one
  obtain ⟨its, rv, ⟨⟨cls, dd, data, sl⟩, n, ho, hc, hdn, hd⟩, hlen⟩ := I.list hs
  simp only at hc hd
  subst hc hd
  refine call_meets PySem.F.slot_list_count ⟨_, ho, rfl⟩ PySem.F.entry_list_count (PySem.F.args_list_count_2 _ _) (SeqAt.list_countAt p its.toArray n dd sl u (eqU y))
    ⟨ho, fun u' hu' => mem_eqAt ru fy rv fys u' (by simpa using hu'), ?_⟩
  have ec : its.toArray.toList.countP (eqU y) = ys.countP fun z => eqV z y := countP_V rv fys
  rw [ec]
  exact ⟨.int _, H, I.tok _, ⟨_, rfl⟩, q⟩
theorem mt_indexK {X : Cx} {K : PySem.W.Frag} (hK : X.K = K) : MtR X "list.index" (rIndex K) := hK ▸ mt_index
section
variable {X : Cx} {K : PySem.W.Frag} {o e : Expr} {es : List Expr} {name T : Str}
def rIsG (K : PySem.W.Frag) (a : Addr) (cls : Value) (d : Option Addr) : List V → Hp → VK → Prop := fun xs H Q => ∃ D, cls = .ref D ∧ d = none ∧ ExcC K D ∧ rIsE K D a xs H Q
theorem call_isG {a : Addr} {cls : Value} {d : Option Addr} {oe : Obj} {pn : List (Addr × Obj)} (hz : Zc cls d oe) (hf : ∃ vs, oe.data = .fields vs) (hK : X.K = K := by rfl) : CallR (X.suite a ((a, oe) :: pn)) (.builtin "isinstance") (rIsG K a cls d) := by
  subst hK
  intro pins s σ H xs us Q I r h
  obtain ⟨D, e1, e2, C, h⟩ := h
  subst e1 e2
  exact call_isE C hz hf pins s σ H xs us Q I r h
/-- isinstance(e, (A, B, ..)) -/
def rIsGT (K : PySem.W.Frag) (a : Addr) (cls : Value) (d : Option Addr) : List V → Hp → VK → Prop := fun xs H Q => ∃ (D tp : Addr) (cs : List V) (us : List Value) (b : Bool), cls = .ref D ∧ d = none ∧ ExcC K D ∧ xs = [.ref a, .ref tp] ∧ H tp = some (.tup cs) ∧ Paired ClsV cs us ∧ PySem.W.kitAny K (.ref D) us = some b ∧ Q (.bl b) H
theorem call_isGT {a : Addr} {cls : Value} {d : Option Addr} {oe : Obj} {pn : List (Addr × Obj)} (hz : Zc cls d oe) (hf : ∃ vs, oe.data = .fields vs) (hK : X.K = K := by rfl) : CallR (X.suite a ((a, oe) :: pn)) (.builtin "isinstance") (rIsGT K a cls d) := by
  subst hK
  intro pins s σ H xs us Q I r h
  obtain ⟨D, tp, cs, ws, b, e1, e2, C, e3, hT, k, ea, q⟩ := h
  subst e1 e2 e3
  obtain ⟨u1, u2, rfl, r1, r2⟩ := vals2 r
  cases (show u1 = Value.ref a from r1)
  cases (show u2 = Value.ref tp from r2)
  obtain ⟨hget, _⟩ := I.pin (a, oe) (List.mem_append.mpr (.inl List.mem_cons_self))
  obtain ⟨vs, hv⟩ := hf
  have J : PySem.W.InstAt s.heap a oe D none := by
    obtain ⟨oc, od, oda, osl⟩ := oe
    obtain ⟨h1, h2⟩ := hz
    dsimp only at h1 h2 hv
    subst h1 h2 hv
    exact ⟨hget, rfl, rfl, trivial⟩
  obtain ⟨_, its, rv, ob, g1, g2, n, g3⟩ := (show ObjOk X.prog X.w H s.heap tp (.tup cs) from I.hok tp _ hT)
  have e3 := ClsV.all k rv
  subst e3
  obtain ⟨oc, od, dt, sl⟩ := ob
  simp only at g2 g3
  subst g2 g3
  exact PySem.W.kia_tup (PySem.W.handS_kitx_exc C.hg C.hk C.hs C.hd C.ha C.hn C.ht C.hm) I.kIn J g1 ea (fun z => nomatch z) fun tk => ⟨.bl b, H, I.kept (t' := tk) fun _ _ z => z, rfl, q⟩
end
section
variable {X : Cx} {K : PySem.W.Frag} {o e : Expr} {es : List Expr} {to : TE} {t : TA} {name : Str} {apos cpos : Pos} {T id : String} {r : V → List V → Hp → VK → Prop}
theorem pe_bmK (hK : X.K = K) (pa : PlainAttrs T) (slot : Slot T name id) (hty : typeOf (.builtin id) = pure (.type "method_descriptor")) (hm : MtR X id r) (ho : PE X o to) (ha : PA X (e :: es) t)
    (h1 : attributeBase o name X.env (eval o X.env) = eval o X.env := by rfl)
    (h2 : (((backTo cpos (starEach (e :: es) X.env)).all fun x => !x.fst) && (backToKw cpos (keywordEach [] X.env)).all (fun x => x.fst.isSome) && decide (((e :: es).length + ([] : List Keyword).length + if ([] : List Keyword).isEmpty = true then 0 else 1) < 30)) = true := by rfl)
    (h3 : (apos.endLine == cpos.line) = true := by rfl) (h4 : starEach (e :: es) X.env = (false, eval e X.env) :: starEach es X.env := by rfl) (h5 : ((backTo cpos (starEach es X.env)).any fun x => x.fst) = false := by rfl) :
    PE X (.Call (.Attribute o name apos) (e :: es) [] cpos) (tBM K T r to t) := hK ▸ pe_bm pa slot hty hm ho ha h1 h2 h3 h4 h5
end
end Nu
namespace Nu
open PySem PySem.Spec PyProof.Rows L2
theorem log_nat {d : Nat} (h : d ≤ 1000) : (d : Int).natAbs.log2 < 1920 := by
  have e : (d : Int).natAbs = d := Int.natAbs_natCast d
  rw [e]
  have h1 : d.log2 < 10 := by
    by_cases c : d = 0
    · subst c
      decide
    · exact (Nat.log2_lt c).mpr (by omega)
  omega
/-- numbers of a rest put down as used -/
def Of.useS (o : Of) (ms : List Int) : Of := { o with st := fun n => if n ∈ ms ∧ o.st n = "rest" then "used" else o.st n }
theorem useS_nil (o : Of) : o.useS [] = o := by
  refine of_eq rfl (funext fun n => ?_) rfl rfl rfl
  show (if n ∈ ([] : List Int) ∧ o.st n = "rest" then ("used" : Str) else o.st n) = o.st n
  rw [if_neg fun z => by cases z.1]
theorem not_used_rest : ¬ (("used" : Str) = "rest") := by decide +kernel
theorem useS_put (o : Of) (ms : List Int) (n : Int) (h : (o.useS ms).st n = "rest") : { (o.useS ms) with st := fun m => if m = n then "used" else (o.useS ms).st m } = o.useS (ms ++ [n]) := by
  have hn : o.st n = "rest" := by
    have h : (if n ∈ ms ∧ o.st n = "rest" then ("used" : Str) else o.st n) = "rest" := h
    by_cases c : n ∈ ms ∧ o.st n = "rest"
    · exact c.2
    · rw [if_neg c] at h
      exact h
  refine of_eq rfl (funext fun m => ?_) rfl rfl rfl
  show (if m = n then ("used" : Str) else if m ∈ ms ∧ o.st m = "rest" then "used" else o.st m) = if m ∈ ms ++ [n] ∧ o.st m = "rest" then ("used" : Str) else o.st m
  by_cases c : m = n
  · subst c
    rw [if_pos rfl, if_pos ⟨List.mem_append_right _ (List.mem_singleton.mpr rfl), hn⟩]
  · rw [if_neg c]
    by_cases c2 : m ∈ ms ∧ o.st m = "rest"
    · rw [if_pos c2, if_pos ⟨List.mem_append_left _ c2.1, c2.2⟩]
    · rw [if_neg c2, if_neg fun z => c2 ⟨(List.mem_append.mp z.1).resolve_right fun q => c (List.mem_singleton.mp q), z.2⟩]
theorem useS_skip (o : Of) (ms : List Int) (n : Int) (h : ¬ (o.useS ms).st n = "rest") : o.useS ms = o.useS (ms ++ [n]) := by
  refine of_eq rfl (funext fun m => ?_) rfl rfl rfl
  show (if m ∈ ms ∧ o.st m = "rest" then ("used" : Str) else o.st m) = if m ∈ ms ++ [n] ∧ o.st m = "rest" then ("used" : Str) else o.st m
  by_cases c2 : m ∈ ms ∧ o.st m = "rest"
  · rw [if_pos c2, if_pos ⟨List.mem_append_left _ c2.1, c2.2⟩]
  · rw [if_neg c2]
    by_cases c3 : m ∈ ms ++ [n] ∧ o.st m = "rest"
    · have e : m = n := by
        rcases List.mem_append.mp c3.1 with q | q
        · exact absurd ⟨q, c3.2⟩ c2
        · exact List.mem_singleton.mp q
      subst e
      refine absurd ?_ h
      show (if m ∈ ms ∧ o.st m = "rest" then ("used" : Str) else o.st m) = "rest"
      rw [if_neg c2]
      exact c3.2
    · rw [if_neg c3]
def Of.stop (o : Of) (d : Nat) : Of := { o with sg := o.sg.set d "stopped", st := fun n => if n ∈ o.le.getD d [] then "rest" else o.st n }
section
variable {P : Program} {w : World} {K : PySem.W.Frag} {mg : Str → Option Value} {base : Heap} {a : Ad} {fd : Fd}
/-- self._stages[desk] = value -/
theorem rd_putSg {H : Hp} {F : Fp} {o : Of} {σ : L2.St} {i j d : Nat} {v : V} {Q : L2.St → Hp → Prop} (T : Txt K mg a fd) (O : Off a H F o) (h0 : σ[i]? = some (some (.ref F.p))) (h1 : σ[j]? = some (some (.int (d : Int)))) (hd : d < o.sg.length)
    (h : Q σ (upd H F.aS (.lst ((o.sg.map V.str).set d v)))) : gSub (tFld K (tVar i) "_stages") (tVar j) rSetL v σ H Q :=
  ⟨_, h0, F.p, a.C, F.dx, _, _, rfl, O.ob, T.cl, T.na_stages, ofl_stages F, _, h1, F.aS, _, _, d, rfl, rfl, O.sg, ixN_nat (by rw [List.length_map]; exact hd), h⟩
/-- self._states[number] = a text -/
theorem rd_putSt {H : Hp} {F : Fp} {o : Of} {σ : L2.St} {i j : Nat} {n : Int} {z : Str} {D : Ends} (T : Txt K mg a fd) (O : Off a H F o) (h400 : o.top ≤ 400) (h0 : σ[i]? = some (some (.ref F.p))) (h1 : σ[j]? = some (some (.int n))) (hn : 1 ≤ n ∧ n ≤ (o.top : Int))
    (h : D.nx σ (upd H F.dS (.dK (stK o.top fun m => if m = n then z else o.st m)))) : sDPut (tFld K (tVar i) "_states") (tVar j) (tC (.str z)) D σ H := by
  refine ⟨_, h0, F.p, a.C, F.dx, _, _, rfl, O.ob, T.cl, T.na_states, ofl_states F, ?_⟩
  refine ⟨_, h1, F.dS, _, rfl, DPut.k (k := Sum.inl n) O.st (small1000 (by rw [stK_length]; omega)), ?_⟩
  rw [putK_stK _ _ _ _ hn]
  exact h
def spUse (a : Ad) : Sp := fun vs H Q _ => ∃ (F : Fp) (o : Of) (q : Addr) (ms : List Int), vs = [.ref F.p, .ref q] ∧ Off a H F o ∧ o.top ≤ 400 ∧ H q = some (.lst (ms.map V.int)) ∧ q ∉ F.foot ∧ (∀ n ∈ ms, 1 ≤ n ∧ n ≤ (o.top : Int)) ∧ ∀ H', Keep F.foot H H' → Off a H' F (o.useS ms) → Q .non H'
theorem ok_Office__use (T : Txt K mg a fd) : FnOk P w K mg base CX0 1 a.Office__use fd.Office__use ["self", "numbers"] (spUse a) := by
  refine T.F_Office__use.ok sc_Office__use (fun vs H Q E h => ?_) (fun cdv A outer s H vs Q E hr h => ?_)
  · obtain ⟨F, o, q, ms, rfl, _⟩ := h
    rfl
  · obtain ⟨F, o, q, ms, rfl, O, h400, hq, hqF, hms, k⟩ := h
    have hu := hu_of hr
    refine ⟨_, (pss_one (ps_for PassesOwn.never rfl (pi_list (pv 1)) (pg_name (i := 2) sc_Office__use.nd rfl (Or.inl rfl))
      (pss_one (ps_if (pt_cmpR op_eq (pe_dget hu (pe_fld (pv 0) rfl) (pv 2) (fun _ _ => rfl)) (pe_gs (by rfl) T.g_REST) (nomark _)) (pss_one (ps_dput hu (pe_fld (pv 0) rfl) (pv 2) (pe_gs (by rfl) T.g_USED) rfl)) pss_nil)))), ?_⟩
    refine ⟨_, rfl, q, rfl, ⟨_, SqL.of hq⟩, for_list (K := K) (a := q) (xs := ms.map V.int) (fun j σ H' => ∃ v : Option V, σ = [some (.ref F.p), some (.ref q), v] ∧ Keep F.foot H H' ∧ Off a H' F (o.useS (ms.take j)))
      ⟨none, rfl, Keep.refl _ _, by rw [List.take_zero, useS_nil]; exact O⟩ (fun j σ H' _ ⟨_, _, kk, _⟩ => SqL.of (kk _ _ hq hqF)) ?_ ?_⟩
    · rintro j x σ H' hj ⟨v, rfl, kk, O1⟩
      obtain ⟨n, hn, rfl⟩ := map_int_at hj
      have b := hms n (List.mem_of_getElem? hn)
      refine rd_state T O1 rfl rfl b ?_
      refine ⟨rfl, _, rfl, ?_⟩
      by_cases c : (o.useS (ms.take j)).st n = "rest"
      · rw [deqT c]
        refine iteT ?_
        refine rd_putSt T O1 h400 rfl rfl b ?_
        refine ⟨_, rfl, kk.trans (keep_upd (.inl (foot_dS F))), ?_⟩
        rw [take_snoc hn, ← useS_put _ _ _ c]
        exact O1.setSt _
      · rw [deqF c]
        refine iteF ?_
        refine ⟨_, rfl, kk, ?_⟩
        rw [take_snoc hn, ← useS_skip _ _ _ c]
        exact O1
    · rintro σ H' ⟨v, rfl, kk, O1⟩
      rw [List.length_map, List.take_length] at O1
      exact k _ kk O1
def spStop (a : Ad) : Sp := fun vs H Q E => ∃ (F : Fp) (o : Of) (d : Int), vs = [.ref F.p, .int d] ∧ Off a H F o ∧ Wf o ∧ d.natAbs.log2 < 1920 ∧
  Ahead a H o d E fun i => ∀ (H' : Hp) (r : Addr), Keep F.foot H H' → Off a H' F (o.stop i) → H' r = some (.lst ((o.le.getD i []).map V.int)) → H r = none → r ∉ F.foot → Q (.ref r) H'
theorem ok_Office_stop (T : Txt K mg a fd) : FnOk P w K mg base (L2.CX P w) 3 a.Office_stop fd.Office_stop ["self", "desk"] (spStop a) := by
  have G_Office__check_going := ok_Office__check_going (P := P) (w := w) (base := base) T
  refine T.F_Office_stop.okX sc_Office_stop (fun vs H Q E h => ?_) (fun cdv A outer s H vs Q E hr h => ?_)
  · obtain ⟨F, o, d, rfl, _⟩ := h
    rfl
  · obtain ⟨F, o, d, rfl, O, W, hd, k1, k2⟩ := h
    have hu := hu_of hr
    refine ⟨_, (pss_cons (ps_expr (pe_meth (pv 0) T.cl T.m_Office__check_going G_Office__check_going (hr.mono (by decide)) T.b_Office__check_going .nil passU (pa_cons (pv 1) pa_nil)))
    (pss_cons (ps_asg (pe_gs (by rfl) T.g_STOPPED) (pg_sub (pe_fld (pv 0) rfl) (pv 1) set_list))
    (pss_cons (ps_for passesU rfl (pi_list (pe_ix ix_list (pe_fld (pv 0) rfl) (pv 1) (fun _ _ => rfl))) (pg_name (i := 2) sc_Office_stop.nd rfl (Or.inl rfl))
      (pss_one (ps_dput hu (pe_fld (pv 0) rfl) (pv 2) (pe_gs (by rfl) T.g_REST) rfl)))
    (pss_one (ps_ret (pe_callTy call_list_of (by rfl) T.n_list (by decide +kernel) (pa_cons (pe_ix ix_list (pe_fld (pv 0) rfl) (pv 1) (fun _ _ => rfl)) pa_nil))))))), ?_⟩
    refine ⟨_, rfl, F.p, F.dx, _, rfl, O.ob, ofl_m F, _, rfl, F, o, d, rfl, O, hd, k1, fun i z e1 e2 => ⟨fun c => (k2 i z e1 e2).1 c, fun c => ?_⟩⟩
    have k3 := (k2 i z e1 e2).2 c
    subst e1
    have his : i < o.sg.length := (List.getElem?_eq_some_iff.mp e2).1
    have hi : i < o.le.length := by
      rw [← W.sl]
      exact his
    have hns : o.le[i]? = some o.le[i] := List.getElem?_eq_getElem hi
    have hg := le_at hns
    have hil : i < F.ls.length := by rw [O.ll]; exact hi
    have hl1 : F.ls[i]? = some F.ls[i] := List.getElem?_eq_getElem hil
    obtain ⟨nd, own⟩ := W.own i _ hns
    have h4 := W.t400
    dsimp only at k3
    rw [hg] at k3
    refine rd_putSg T O rfl rfl his ?_
    rw [← List.map_set]
    have O1 := O.setSg (o.sg.set i "stopped")
    have k1' : Keep F.foot H (upd H F.aS (.lst ((o.sg.set i "stopped").map V.str))) := keep_upd (.inl (foot_aS F))
    generalize upd H F.aS (.lst ((o.sg.set i "stopped").map V.str)) = H1 at O1 k1' ⊢
    refine rd_lent1 T O1 rfl rfl hl1 ?_
    have hl := O1.each i _ _ hl1 hns
    refine ⟨_, rfl, ⟨_, SqL.of hl⟩, for_list (K := K) (a := F.ls[i]) (xs := o.le[i].map V.int)
      (fun j σ H' => ∃ v : Option V, σ = [some (.ref F.p), some (.int (i : Int)), v] ∧ Keep F.foot H H' ∧ Off a H' F { o with sg := o.sg.set i "stopped", st := fun n => if n ∈ o.le[i].take j then "rest" else o.st n })
      ⟨none, rfl, k1', by
        have e : (fun n => if n ∈ o.le[i].take 0 then ("rest" : Str) else o.st n) = o.st := funext fun n => if_neg (by simp)
        rw [e]
        exact O1⟩ (fun j σ H' _ ⟨_, _, _, O2⟩ => SqL.of (O2.each i _ _ hl1 hns)) ?_ ?_⟩
    · rintro j x σ H' hj ⟨v, rfl, kk, O2⟩
      obtain ⟨n, hn, rfl⟩ := map_int_at hj
      have b := own n (List.mem_of_getElem? hn)
      refine rd_putSt T O2 h4 rfl rfl ⟨b.1, b.2.1⟩ ?_
      refine ⟨_, rfl, kk.trans (keep_upd (.inl (foot_dS F))), ?_⟩
      have O3 := O2.setSt (fun m => if m = n then "rest" else if m ∈ o.le[i].take j then "rest" else o.st m)
      have e : (fun m => if m = n then ("rest" : Str) else if m ∈ o.le[i].take j then "rest" else o.st m) = fun m => if m ∈ o.le[i].take (j + 1) then ("rest" : Str) else o.st m := funext fun m => by
        rw [take_snoc hn]
        by_cases c : m = n
        · rw [if_pos c, if_pos (List.mem_append_right _ (List.mem_singleton.mpr c))]
        · rw [if_neg c]
          by_cases c2 : m ∈ o.le[i].take j
          · rw [if_pos c2, if_pos (List.mem_append_left _ c2)]
          · rw [if_neg c2, if_neg fun z => (List.mem_append.mp z).elim c2 fun q => c (List.mem_singleton.mp q)]
      rw [← e]
      exact O3
    · rintro σ H' ⟨v, rfl, kk, O2⟩
      rw [List.length_map, List.take_length] at O2
      have hl2 := O2.each i _ _ hl1 hns
      refine rd_lent1 T O2 rfl rfl hl1 ?_
      refine ⟨_, _, rfl, .inl (SqL.of hl2), fun r nr => ?_⟩
      refine k3 _ r (kk.trans (keep_upd (.inr nr))) ?_ upd_same (kk.free nr (O2.new nr)) (O2.new nr)
      have e : o.stop i = { o with sg := o.sg.set i "stopped", st := fun n => if n ∈ o.le[i] then "rest" else o.st n } := by
        unfold Of.stop
        rw [hg]
      rw [e]
      exact O2.upd_new nr
end
end Nu
namespace Nu
open PySem PySem.Spec PyProof.Rows L2
theorem wipe1 (σ : L2.St) (i : Nat) (v : Option V) : wipe ((wipe σ [i]).set i v) [i] = wipe σ [i] := by
  show ((σ.set i none).set i v).set i none = σ.set i none
  rw [List.set_set, List.set_set]
def Of.least (o : Of) (ns : List Int) : List Int := ns.filter fun n => !decide (o.st n = "rest")
def Of.found (o : Of) (i : Nat) (n : Int) : Of := { (o.useS ((o.le.getD i []).take ((o.le.getD i []).idxOf n))) with st := fun m => if m = n then "paper" else (o.useS ((o.le.getD i []).take ((o.le.getD i []).idxOf n))).st m }
theorem filter_snoc {α : Type} (p : α → Bool) (l : List α) (x : α) : (l ++ [x]).filter p = if p x = true then l.filter p ++ [x] else l.filter p := by
  rw [List.filter_append]
  by_cases c : p x = true
  · rw [if_pos c, List.filter_cons_of_pos c]
    rfl
  · rw [if_neg c, List.filter_cons_of_neg c]
    simp
theorem idx_before {ns : List Int} {n : Int} {m : Nat} {z : V} (hm : m < ns.idxOf n) (e : (ns.map V.int)[m]? = some z) : eqV z (V.int n) = false := by
  obtain ⟨y, hy, rfl⟩ := map_int_at e
  have h : ns[m]'((List.getElem?_eq_some_iff.mp hy).1) = y := (List.getElem?_eq_some_iff.mp hy).2
  have ne : y ≠ n := fun q => by
    have := List.not_of_lt_findIdx (p := (· == n)) (xs := ns) (i := m) hm
    rw [h, q] at this
    simp at this
  show decide (y = n) = false
  exact decide_eq_false ne
theorem eqV_refl (n : Int) : eqV (V.int n) (V.int n) = true := by
  show decide (n = n) = true
  exact decide_eq_true rfl
theorem flat_ints (ns : List Int) : (ns.map V.int).all flatV = true := by
  rw [List.all_map]
  exact List.all_eq_true.mpr fun _ _ => rfl
section
variable {P : Program} {w : World} {K : PySem.W.Frag} {mg : Str → Option Value} {base : Heap} {a : Ad} {fd : Fd}
def spLeastUsed (a : Ad) : Sp := fun vs H Q _ => ∃ (F : Fp) (o : Of) (i : Nat), vs = [.ref F.p, .int (i : Int)] ∧ Off a H F o ∧ Wf o ∧ o.sg[i]? = some ("stopped" : Str) ∧ ∀ H', Same H H' → Q (.int (((o.least (o.le.getD i [])).length : Nat) : Int)) H'
theorem ok_Office_least_used (T : Txt K mg a fd) : FnOk P w K mg base (L2.CX P w) 3 a.Office_least_used fd.Office_least_used ["self", "desk"] (spLeastUsed a) := by
  have G_Office_rest := ok_Office_rest (P := P) (w := w) (base := base) T
  refine T.F_Office_least_used.okX sc_Office_least_used (fun vs H Q E h => ?_) (fun cdv A outer s H vs Q E hr h => ?_)
  · obtain ⟨F, o, i, rfl, _⟩ := h
    rfl
  · obtain ⟨F, o, i, rfl, O, W, hz, k⟩ := h
    have hu := hu_of hr
    have his : i < o.sg.length := (List.getElem?_eq_some_iff.mp hz).1
    have hi : i < o.le.length := by rw [← W.sl]; exact his
    have hns : o.le[i]? = some o.le[i] := List.getElem?_eq_getElem hi
    have hg := le_at hns
    have d6 := W.d6
    obtain ⟨nd, own⟩ := W.own i _ hns
    have len := Wf.len400 W hns
    rw [hg] at k
    refine ⟨_, (pss_one (ps_ret (pe_callB call_len_seq (by rfl) T.n_len PySem.boot_len (pa_cons (pe_lc (own := [("number", 2)]) (g := gName 2) (by rfl) sc_Office_least_used.nd (pi_list (pe_meth (pv 0) T.cl T.m_Office_rest G_Office_rest (hr.mono (by decide)) T.b_Office_rest .nil passU (pa_cons (pv 1) pa_nil))) (blkOk_by (own := [("number", 2)]) (N := ["self", "desk", "number"]) (sc := defScope s_Office_least_used) (by decide +kernel)) (fun _ _ _ _ _ => pg_name (i := 2) sc_Office_least_used.nd rfl (Or.inl rfl)) (fun _ _ _ _ _ => (pts_one (pt_cmpR op_ne (pe_dget hu (pe_fldK (K := K) rfl (pv 0) rfl) (pv 2) (fun _ _ => rfl)) (pe_gs (by rfl) T.g_REST) (nomark _)))) (fun _ _ _ _ _ => (pv 2))) pa_nil)))), ?_⟩
    refine ⟨_, rfl, F.p, F.dx, _, rfl, O.ob, ofl_m F, _, rfl, F, o, (i : Int), rfl, O, W, log_nat (by omega), fun c => absurd (by omega) c, fun i' z' e1 e2 r nr => ?_⟩
    have ei : i' = i := by omega
    subst ei
    rw [hz] at e2
    cases e2
    rw [if_pos rfl, hg]
    have O1 : Off a (upd H r (.lst (o.le[i'].map V.int))) F o := O.upd_new nr
    have s1 : Same H (upd H r (.lst (o.le[i'].map V.int))) := same_upd nr
    have hr1 : (upd H r (.lst (o.le[i'].map V.int))) r = some (.lst (o.le[i'].map V.int)) := upd_same
    generalize upd H r (.lst (o.le[i'].map V.int)) = H1 at O1 s1 hr1 ⊢
    refine ⟨r, rfl, ⟨_, SqL.of hr1⟩, fun D nD => lc_list (K := K) (a := r) (xs := o.le[i'].map V.int)
      (fun j H' => Same H1 H' ∧ H' D = some (.lst ((o.least (o.le[i'].take j)).map V.int)))
      ⟨same_upd nD, by rw [List.take_zero]; exact upd_same⟩ (fun j H' _ ⟨s2, _⟩ => SqL.of (s2 _ _ hr1)) ?_ ?_⟩
    · rintro j x H' hj ⟨s2, hD⟩
      obtain ⟨n, hn, rfl⟩ := map_int_at hj
      have b := own n (List.mem_of_getElem? hn)
      have O2 : Off a H' F o := O1.stay fun c _ u e => s2 c u e
      refine ⟨wipe1 _ _ _, ?_⟩
      refine rd_state T O2 rfl rfl ⟨b.1, b.2.1⟩ ?_
      have st : o.least (o.le[i'].take (j + 1)) = if (!decide (o.st n = "rest")) = true then o.least (o.le[i'].take j) ++ [n] else o.least (o.le[i'].take j) := by
        unfold Of.least
        rw [take_snoc hn, filter_snoc]
      refine ⟨rfl, _, rfl, ?_⟩
      by_cases c : o.st n = "rest"
      · rw [dneF c]
        refine iteF ?_
        rw [if_neg (by rw [decide_eq_true c]; simp)] at st
        exact ⟨s2, by rw [st]; exact hD⟩
      · rw [dneT c]
        refine iteT ?_
        rw [if_pos (by rw [decide_eq_false c]; rfl)] at st
        have hll : (o.least (o.le[i'].take j)).length ≤ 400 := by
          refine Nat.le_trans (List.length_filter_le _ _) (Nat.le_trans (List.length_take_le' _ _) len)
        refine ⟨_, rfl, _, hD, small1000 (by rw [List.length_map]; omega), fun cc u e => ?_, ?_⟩
        · rw [upd_ne (fun z => by rw [z, nD] at e; cases e)]
          exact s2 cc u e
        · rw [st, upd_same]
          simp only [List.map_append, List.map_cons, List.map_nil]
    · rintro H' ⟨s2, hD⟩
      rw [List.length_map, List.take_length] at hD
      refine ⟨D, _, rfl, .inl (SqL.of hD), ?_⟩
      rw [List.length_map]
      exact k _ (s1.trans s2)
end
end Nu
namespace Nu
open PySem PySem.Spec PyProof.Rows L2
/-- the numbers that are let go at a settling, with what they are then -/
def Of.setl (o : Of) (i k : Nat) : List (Int × Str) := ((o.le.getD i []).take k).map (fun n => (n, (o.useS ((o.le.getD i []).take k)).st n)) ++ ((o.le.getD i []).drop k).map fun n => (n, ("free" : Str))
def Of.settle (o : Of) (i k : Nat) : Of := { ((o.useS ((o.le.getD i []).take k)).lets (o.setl i k)) with sg := o.sg.set i "settled", le := o.le.set i [] }
theorem setl_keys (o : Of) (i k : Nat) : (o.setl i k).map (·.1) = o.le.getD i [] := by
  unfold Of.setl
  rw [List.map_append, List.map_map, List.map_map]
  have e1 : ∀ l : List Int, l.map ((fun p : Int × Str => p.1) ∘ fun n => (n, (o.useS ((o.le.getD i []).take k)).st n)) = l := fun l => List.map_id' l
  have e2 : ∀ l : List Int, l.map ((fun p : Int × Str => p.1) ∘ fun n => (n, ("free" : Str))) = l := fun l => List.map_id' l
  rw [e1, e2, List.take_append_drop]
theorem nodup_notin {l : List Int} (h : l.Nodup) {j : Nat} {x : Int} (e : l[j]? = some x) : x ∉ l.take j := by
  intro hm
  obtain ⟨j', hj', q⟩ := List.getElem_of_mem hm
  rw [List.length_take] at hj'
  have h1 : l[j']? = some x := by
    rw [← q, List.getElem_take]
    exact List.getElem?_eq_getElem (by omega)
  have := (List.getElem?_inj (List.getElem?_eq_some_iff.mp h1).1 h).mp (h1.trans e.symm)
  omega
theorem useS_wf {o : Of} (w : Wf o) (ms : List Int) : Wf (o.useS ms) := by
  refine ⟨w.t1, w.t400, w.d1, w.d6, w.sl, w.own, w.hol, fun n e => ?_⟩
  have e : (if n ∈ ms ∧ o.st n = "rest" then ("used" : Str) else o.st n) = "free" := e
  by_cases c : n ∈ ms ∧ o.st n = "rest"
  · rw [if_pos c] at e
    exact absurd e (by decide +kernel)
  · rw [if_neg c] at e
    exact w.fre n e
section
variable {P : Program} {w : World} {K : PySem.W.Frag} {mg : Str → Option Value} {base : Heap} {a : Ad} {fd : Fd}
def spSettle (a : Ad) : Sp := fun vs H Q E => ∃ (F : Fp) (o : Of) (d m : Int), vs = [.ref F.p, .int d, .int m] ∧ Off a H F o ∧ Wf o ∧ d.natAbs.log2 < 1920 ∧ m.natAbs.log2 < 1920 ∧ (¬ (0 ≤ d ∧ d < (o.sg.length : Int)) → E (.ref a.NoDesk) none H) ∧
  ∀ (i : Nat) (z : Str), d = (i : Int) → o.sg[i]? = some z → (z ≠ "stopped" → E (.ref a.NotThere) none H) ∧ (z = "stopped" →
    (¬ ((((o.least (o.le.getD i [])).length : Nat) : Int) ≤ m ∧ m ≤ ((o.le.getD i []).length : Int)) → ∀ H', Same H H' → E (.ref a.NoCount) none H') ∧
    ((((o.least (o.le.getD i [])).length : Nat) : Int) ≤ m → m ≤ ((o.le.getD i []).length : Int) → ∀ (F' : Fp) (H' : Hp) (r : Addr) (ns' : List Int), Beh a H H' F F' (o.settle i m.toNat) → ns'.Perm ((o.le.getD i []).drop m.toNat) → ns'.Pairwise (· ≤ ·) →
      H' r = some (.lst (ns'.map V.int)) → H r = none → r ∉ F'.foot → Q (.ref r) H'))
theorem ok_Office_settle (T : Txt K mg a fd) : FnOk P w K mg base (L2.CX P w) 4 a.Office_settle fd.Office_settle ["self", "desk", "many"] (spSettle a) := by
  have G_Office__use := ok_Office__use (P := P) (w := w) (base := base) T
  have G_Office_least_used := ok_Office_least_used (P := P) (w := w) (base := base) T
  have G_Office__check_desk := ok_Office__check_desk (P := P) (w := w) (base := base) T
  have G_Office_has_rest := ok_Office_has_rest (P := P) (w := w) (base := base) T
  have G_Office__let_go := ok_Office__let_go (P := P) (w := w) (base := base) T
  refine T.F_Office_settle.okX sc_Office_settle (fun vs H Q E h => ?_) (fun cdv A outer s H vs Q E hr h => ?_)
  · obtain ⟨F, o, d, m, rfl, _⟩ := h
    rfl
  · obtain ⟨F, o, d, m, rfl, O, W, hd, hm, k1, k2⟩ := h
    have hu := hu_of hr
    refine ⟨_, (pss_cons (ps_expr (pe_meth (pv 0) T.cl T.m_Office__check_desk G_Office__check_desk (hr.mono (by decide)) T.b_Office__check_desk .nil passU (pa_cons (pv 1) pa_nil)))
    (pss_cons (ps_if (pt_not (pt_val (pe_meth (pv 0) T.cl T.m_Office_has_rest G_Office_has_rest (hr.mono (by decide)) T.b_Office_has_rest .nil pass0 (pa_cons (pv 1) pa_nil)))) (pss_one (ps_raise rfl takesU (pmk_ownA PySem.F.excBase_ValueError T.x_NotThere.x T.x_NotThere.g T.x_NotThere.k (raises_own T.x_NotThere.b T.x_NotThere.t) (by rfl) (pa_cons (pe_joined (.cons pe_str (.cons (pe_fmt (pv 1)) (.cons pe_str PJ.nil)))) pa_nil)))) pss_nil)
    (pss_cons (ps_set (i := 3) sc_Office_settle.nd rfl (Or.inl rfl) (pe_ix ix_list (pe_fld (pv 0) rfl) (pv 1) (fun _ _ => rfl)))
    (pss_cons (ps_if (PW.pt (pw_or (pt_cmpR op_lt (pv 2) (pe_meth (pv 0) T.cl T.m_Office_least_used G_Office_least_used (hr.mono (by decide)) T.b_Office_least_used .nil passU (pa_cons (pv 1) pa_nil)) (nomark _)) (pw_or1 (pt_cmpR op_gt (pv 2) (pe_callB call_len_seq (by rfl) T.n_len PySem.boot_len (pa_cons (pv 3) pa_nil)) (nomark _))))) (pss_one (ps_raise rfl takesU (pmk_ownA PySem.F.excBase_ValueError T.x_NoCount.x T.x_NoCount.g T.x_NoCount.k (raises_own T.x_NoCount.b T.x_NoCount.t) (by rfl) (pa_cons (pe_joined (.cons (pe_fmt (pv 2)) (.cons pe_str (.cons (pe_fmt (pv 1)) (.cons pe_str PJ.nil))))) pa_nil)))) pss_nil)
    (pss_cons (ps_set (i := 4) sc_Office_settle.nd rfl (Or.inl rfl) (pe_slice sl_list (pv 3) (po_some (pv 2)) po_none))
    (pss_cons (ps_expr (pe_meth (pv 0) T.cl T.m_Office__use G_Office__use (hr.mono (by decide)) T.b_Office__use .nil pass0 (pa_cons (pe_slice sl_list (pv 3) po_none (po_some (pv 2))) pa_nil)))
    (pss_cons (ps_for passesU rfl (pi_list (pe_slice sl_list (pv 3) po_none (po_some (pv 2)))) (pg_name (i := 5) sc_Office_settle.nd rfl (Or.inl rfl))
      (pss_one (ps_expr (pe_meth (pv 0) T.cl T.m_Office__let_go G_Office__let_go (hr.mono (by decide)) T.b_Office__let_go .nil pass0 (pa_cons (pv 5) (pa_cons (pe_dget hu (pe_fld (pv 0) rfl) (pv 5) (fun _ _ => rfl)) pa_nil))))))
    (pss_cons (ps_for passesU rfl (pi_list (pv 4)) (pg_name (i := 5) sc_Office_settle.nd rfl (Or.inl rfl))
      (pss_one (ps_expr (pe_meth (pv 0) T.cl T.m_Office__let_go G_Office__let_go (hr.mono (by decide)) T.b_Office__let_go .nil pass0 (pa_cons (pv 5) (pa_cons (pe_gs (by rfl) T.g_FREE) pa_nil))))))
    (pss_cons (ps_asg (pe_gs (by rfl) T.g_SETTLED) (pg_sub (pe_fld (pv 0) rfl) (pv 1) set_list))
    (pss_cons (ps_asg (pe_lst pa_nil) (pg_sub (pe_fld (pv 0) rfl) (pv 1) set_list))
    (pss_one (ps_ret (pe_callB cr_sortedI (by rfl) T.n_sorted (by decide +kernel) (pa_cons (pv 4) pa_nil)))))))))))))), ?_⟩
    refine ⟨_, rfl, F.p, F.dx, _, rfl, O.ob, ofl_m F, _, rfl, F, o, d, rfl, O, hd, k1, fun c => ?_⟩
    obtain ⟨i, rfl⟩ := Int.eq_ofNat_of_zero_le c.1
    have his : i < o.sg.length := by omega
    have hsg : o.sg[i]? = some o.sg[i] := List.getElem?_eq_getElem his
    obtain ⟨k3, k4⟩ := k2 i _ rfl hsg
    have hi : i < o.le.length := by rw [← W.sl]; exact his
    have hns : o.le[i]? = some o.le[i] := List.getElem?_eq_getElem hi
    have hg := le_at hns
    have d6 := W.d6
    have len := Wf.len400 W hns
    refine ⟨_, rfl, F.p, F.dx, _, rfl, O.ob, ofl_m F, _, rfl, F, o, i, _, rfl, O, hsg, _, rfl, ?_⟩
    by_cases c2 : o.sg[i] = "stopped"
    · rw [decide_eq_true c2]
      refine iteF ?_
      obtain ⟨k5, k6⟩ := k4 c2
      rw [hg] at k5 k6
      have hil : i < F.ls.length := by rw [O.ll]; exact hi
      have hl1 : F.ls[i]? = some F.ls[i] := List.getElem?_eq_getElem hil
      have hl := O.each i _ _ hl1 hns
      obtain ⟨nd, own⟩ := W.own i _ hns
      refine rd_lent1 T O rfl rfl hl1 ?_
      refine ⟨_, rfl, _, rfl, F.p, F.dx, _, rfl, O.ob, ofl_m F, _, rfl, F, o, i, rfl, O, W, by rw [hsg, c2], fun H1 s1 => ?_⟩
      rw [hg]
      have O1 : Off a H1 F o := O.stay fun c _ u e => s1 c u e
      have no : (¬ ((((o.least o.le[i]).length : Nat) : Int) ≤ m ∧ m ≤ (o.le[i].length : Int))) → ∀ (v : Option V), tJs [tFmt (tVar 2), tC (.str " of the rest of desk "), tFmt (tVar 1), tC (.str " cannot have been used")] Str.empty [some (.ref F.p), some (.int (i : Int)), some (.int m), some (.ref F.ls[i]), none, v] H1 (fun out H2 => [V.str out].length ≤ sizeLine ∧ E (.ref a.NoCount) none H2) := fun hh v =>
        js_f (b := 0) rfl hm (Nat.le_refl _) (by omega) fun _ ha => js_s ha (by decide +kernel) (by omega) fun _ ha => js_f rfl hd ha (by omega) fun _ ha => js_s ha (by decide +kernel) (by omega) fun _ _ => ⟨one_le _, k5 hh H1 s1⟩
      refine ⟨_, _, rfl, rfl, _, rfl, ?_⟩
      by_cases c3 : m < (((o.least o.le[i]).length : Nat) : Int)
      · rw [decide_eq_true c3]
        refine iteT (iteT ?_)
        exact no (by omega) none
      · rw [decide_eq_false c3]
        refine iteF ?_
        have hl' := O1.each i _ _ hl1 hns
        refine ⟨_, rfl, _, rfl, F.ls[i], _, rfl, .inl (SqL.of hl'), _, _, rfl, rfl, _, rfl, ?_⟩
        rw [List.length_map]
        by_cases c4 : (o.le[i].length : Int) < m
        · rw [decide_eq_true c4]
          refine iteT ?_
          exact no (by omega) none
        · rw [decide_eq_false c4]
          refine iteF ?_
          obtain ⟨km, rfl⟩ := Int.eq_ofNat_of_zero_le (show 0 ≤ m by omega)
          have k7 := k6 (by omega) (by omega)
          have hkm : km ≤ o.le[i].length := by omega
          rw [show ((km : Int)).toNat = km from Int.toNat_natCast km] at k7
          -- unused = rest[many:]
          refine ⟨_, rfl, _, rfl, _, rfl, _, _, rfl, SqL.of hl', fun u nu => ?_⟩
          rw [cut_from _ _ (by rw [List.length_map]; exact hkm), ← List.map_drop]
          have uF := O1.new nu
          have O2 : Off a (upd H1 u (.lst ((o.le[i].drop km).map V.int))) F o := O1.upd_new nu
          have s2 : Same H (upd H1 u (.lst ((o.le[i].drop km).map V.int))) := s1.trans (same_upd nu)
          have hu2 : (upd H1 u (.lst ((o.le[i].drop km).map V.int))) u = some (.lst ((o.le[i].drop km).map V.int)) := upd_same
          have nuH : H u = none := s1.free nu
          generalize upd H1 u (.lst ((o.le[i].drop km).map V.int)) = H2 at O2 s2 hu2 ⊢
          have hl2 := O2.each i _ _ hl1 hns
          -- self._use(rest[:many])
          refine ⟨_, rfl, F.p, F.dx, _, rfl, O2.ob, ofl_m F, _, rfl, _, rfl, _, rfl, _, _, rfl, SqL.of hl2, fun q nq => ?_⟩
          rw [cut_to, ← List.map_take]
          have O3 : Off a (upd H2 q (.lst ((o.le[i].take km).map V.int))) F o := O2.upd_new nq
          refine ⟨F, o, q, o.le[i].take km, rfl, O3, W.t400, upd_same, O2.new nq, fun n hn => ⟨(own n (List.mem_of_mem_take hn)).1, (own n (List.mem_of_mem_take hn)).2.1⟩, fun H4 kk4 O4 => ?_⟩
          have k4' : Keep F.foot H2 H4 := (keep_upd (.inr nq)).trans kk4
          have hl4 := O4.each i _ _ hl1 hns
          -- for number in rest[:many]
          refine ⟨_, rfl, _, rfl, _, rfl, _, _, rfl, SqL.of hl4, fun q2 nq2 => ?_⟩
          rw [cut_to, ← List.map_take]
          have O5 : Off a (upd H4 q2 (.lst ((o.le[i].take km).map V.int))) F (o.useS (o.le[i].take km)) := O4.upd_new nq2
          have q2F := O4.new nq2
          have k5' : Keep F.foot H2 (upd H4 q2 (.lst ((o.le[i].take km).map V.int))) := k4'.trans (keep_upd (.inr nq2))
          have hq2 : (upd H4 q2 (.lst ((o.le[i].take km).map V.int))) q2 = some (.lst ((o.le[i].take km).map V.int)) := upd_same
          generalize upd H4 q2 (.lst ((o.le[i].take km).map V.int)) = H5 at O5 k5' hq2 ⊢
          have LK : (o.setl i km).map (·.1) = o.le[i] := by rw [setl_keys, hg]
          have L1 : ∀ (j : Nat) (n : Int), (o.le[i].take km)[j]? = some n → (o.setl i km)[j]? = some (n, (o.useS (o.le[i].take km)).st n) := fun j n hn => by
            unfold Of.setl
            rw [hg, List.getElem?_append_left (by rw [List.length_map]; exact (List.getElem?_eq_some_iff.mp hn).1), List.getElem?_map, hn]
            rfl
          have L2 : ∀ (j : Nat) (n : Int), (o.le[i].drop km)[j]? = some n → (o.setl i km)[km + j]? = some (n, ("free" : Str)) := fun j n hn => by
            unfold Of.setl
            rw [hg, List.getElem?_append_right (by rw [List.length_map, List.length_take]; omega), List.length_map, List.length_take, show km + j - min km o.le[i].length = j by omega, List.getElem?_map, hn]
            rfl
          have keyAt : ∀ (t : Nat) (n : Int) (z : Str), (o.setl i km)[t]? = some (n, z) → o.le[i][t]? = some n := fun t n z e => by
            rw [← LK, List.getElem?_map, e]
            rfl
          have step : ∀ (t : Nat) (n : Int) (z : Str) (H' : Hp), (o.setl i km)[t]? = some (n, z) → (1 ≤ n ∧ n ≤ (o.top : Int)) ∧ n ∉ ((o.setl i km).take t).map (·.1) ∧ ((o.useS (o.le[i].take km)).lets ((o.setl i km).take t)).ho n = some (i : Int) := fun t n z H' e => by
            have h1 := keyAt t n z e
            have b := own n (List.mem_of_getElem? h1)
            have h2 : n ∉ ((o.setl i km).take t).map (·.1) := by
              rw [List.map_take, LK]
              exact nodup_notin nd h1
            exact ⟨⟨b.1, b.2.1⟩, h2, by rw [lets_ho, if_neg h2]; exact b.2.2⟩
          refine ⟨q2, rfl, ⟨_, SqL.of hq2⟩, for_list (K := K) (a := q2) (xs := (o.le[i].take km).map V.int)
            (fun j σ H' => ∃ v : Option V, σ = [some (.ref F.p), some (.int (i : Int)), some (.int (km : Int)), some (.ref F.ls[i]), some (.ref u), v] ∧ Keep F.foot H5 H' ∧ Off a H' F ((o.useS (o.le[i].take km)).lets ((o.setl i km).take j)))
            ⟨none, rfl, Keep.refl _ _, O5⟩ (fun j σ H' _ ⟨_, _, kk, _⟩ => SqL.of (kk _ _ hq2 q2F)) ?_ ?_⟩
          · rintro j x σ H' hj ⟨v, rfl, kk, O6⟩
            obtain ⟨n, hn, rfl⟩ := map_int_at hj
            have hz := L1 j n hn
            obtain ⟨b, h2, h3⟩ := step j n _ H' hz
            have tp := lets_top ((o.setl i km).take j) (o.useS (o.le[i].take km))
            refine ⟨_, rfl, F.p, F.dx, _, rfl, O6.ob, ofl_m F, _, rfl, ?_⟩
            refine rd_state T O6 rfl rfl (by rw [tp.1]; exact b) ?_
            rw [lets_st_out _ _ _ h2]
            refine ⟨F, _, n, _, rfl, O6, by rw [tp.1]; exact b, by rw [tp.1]; exact W.t400, ⟨_, h3⟩, fun H7 kk7 O7 => ?_⟩
            refine ⟨_, rfl, kk.trans kk7, ?_⟩
            rw [take_snoc hz, lets_snoc]
            exact O7
          · rintro σ H' ⟨v, rfl, kk, O6⟩
            rw [List.length_map, List.length_take, show min km o.le[i].length = km by omega] at O6
            have hu6 := kk _ _ (k5' _ _ hu2 uF) uF
            refine ⟨_, rfl, u, rfl, ⟨_, SqL.of hu6⟩, for_list (K := K) (a := u) (xs := (o.le[i].drop km).map V.int)
              (fun j σ H' => ∃ v : Option V, σ = [some (.ref F.p), some (.int (i : Int)), some (.int (km : Int)), some (.ref F.ls[i]), some (.ref u), v] ∧ Keep F.foot H5 H' ∧ Off a H' F ((o.useS (o.le[i].take km)).lets ((o.setl i km).take (km + j))))
              ⟨_, rfl, kk, O6⟩ (fun j σ H' _ ⟨_, _, kk, _⟩ => SqL.of (kk _ _ (k5' _ _ hu2 uF) uF)) ?_ ?_⟩
            · rintro j x σ H' hj ⟨v, rfl, kk, O6⟩
              obtain ⟨n, hn, rfl⟩ := map_int_at hj
              have hz := L2 j n hn
              obtain ⟨b, h2, h3⟩ := step (km + j) n _ H' hz
              have tp := lets_top ((o.setl i km).take (km + j)) (o.useS (o.le[i].take km))
              refine ⟨_, rfl, F.p, F.dx, _, rfl, O6.ob, ofl_m F, _, rfl, F, _, n, "free", rfl, O6, by rw [tp.1]; exact b, by rw [tp.1]; exact W.t400, ⟨_, h3⟩, fun H7 kk7 O7 => ?_⟩
              refine ⟨_, rfl, kk.trans kk7, ?_⟩
              rw [show km + (j + 1) = (km + j) + 1 by omega, take_snoc hz, lets_snoc]
              exact O7
            · rintro σ H6 ⟨v, rfl, kk6, O6⟩
              have el : (o.setl i km).take (km + ((o.le[i].drop km).map V.int).length) = o.setl i km := List.take_of_length_le (by
                have := congrArg List.length LK
                rw [List.length_map] at this
                rw [this, List.length_map, List.length_drop]
                omega)
              rw [el] at O6
              have tp := lets_top (o.setl i km) (o.useS (o.le[i].take km))
              have kH6 : Keep F.foot H H6 := (Keep.same s2).trans (k5'.trans kk6)
              have hu7 : H6 u = some (.lst ((o.le[i].drop km).map V.int)) := kk6 _ _ (k5' _ _ hu2 uF) uF
              have hsg6 : ((o.useS (o.le[i].take km)).lets (o.setl i km)).sg = o.sg := tp.2.1
              have hle6 : ((o.useS (o.le[i].take km)).lets (o.setl i km)).le = o.le := tp.2.2
              refine rd_putSg T O6 rfl rfl (by rw [hsg6]; exact his) ?_
              rw [← List.map_set, hsg6]
              have O7 := O6.setSg (o.sg.set i "settled")
              have kH7 : Keep F.foot H (upd H6 F.aS (.lst ((o.sg.set i "settled").map V.str))) := kH6.trans (keep_upd (.inl (foot_aS F)))
              have hu8 : (upd H6 F.aS (.lst ((o.sg.set i "settled").map V.str))) u = some (.lst ((o.le[i].drop km).map V.int)) := by
                rw [upd_ne (fun z => uF (by rw [z]; exact foot_aS F))]
                exact hu7
              generalize upd H6 F.aS (.lst ((o.sg.set i "settled").map V.str)) = H7 at O7 kH7 hu8 ⊢
              refine ⟨Nat.zero_le _, fun r nr => ?_⟩
              have O8 : Off a (upd H7 r (.lst [])) F _ := O7.upd_new nr
              refine rd_put T O8 rfl rfl hil ?_
              rw [← List.map_set]
              have B := Beh.newLe (d := i) O7 kH7 nr hil []
              have eo : o.settle i km = { ({ ((o.useS (o.le[i].take km)).lets (o.setl i km)) with sg := o.sg.set i "settled" } : Of) with le := ({ ((o.useS (o.le[i].take km)).lets (o.setl i km)) with sg := o.sg.set i "settled" } : Of).le.set i [] } := by
                show _ = { ({ ((o.useS (o.le[i].take km)).lets (o.setl i km)) with sg := o.sg.set i "settled" } : Of) with le := ((o.useS (o.le[i].take km)).lets (o.setl i km)).le.set i [] }
                unfold Of.settle
                rw [hg, hle6]
              have ur : u ≠ r := fun z => by rw [z, nr] at hu8; cases hu8
              have hu9 : (upd (upd H7 r (.lst [])) F.aL (.lst ((F.ls.set i r).map V.ref))) u = some (.lst ((o.le[i].drop km).map V.int)) := by
                rw [upd_ne (fun z => uF (by rw [z]; exact foot_aL F)), upd_ne ur]
                exact hu8
              refine ⟨_, rfl, u, _, rfl, SqL.of hu9, fun ns' p pm pw hp => ?_⟩
              have pF := B.of.new hp
              refine k7 { F with ls := F.ls.set i r } _ p ns' ⟨fun c u' e hc => ?_, B.ff, rfl, by rw [eo]; exact B.of.upd_new hp⟩ pm pw upd_same ?_ pF
              · have h1 := B.kp c u' e hc
                rw [upd_ne (fun z => by rw [z] at h1; exact absurd (h1.symm.trans hp) (by simp))]
                exact h1
              · refine B.kp.free hp fun z => ?_
                obtain ⟨u1, hu1⟩ := O7.has p z
                by_cases d1 : p = F.aL
                · exact pF (by rw [d1]; exact foot_aL _)
                · rw [upd_ne d1] at hp
                  by_cases d2 : p = r
                  · rw [d2, upd_same] at hp
                    cases hp
                  · rw [upd_ne d2, hu1] at hp
                    cases hp
    · rw [decide_eq_false c2]
      refine iteT ?_
      exact js_s (b := 0) (Nat.le_refl _) (by decide +kernel) (by omega) fun _ ha => js_f rfl hd ha (by omega) fun _ ha => js_s ha (by decide +kernel) (by omega) fun _ _ => ⟨one_le _, k3 c2⟩
end
end Nu
namespace Nu
open PySem PySem.Spec PyProof.Rows L2
def IntOk (n : Int) : Prop := n.natAbs.log2 < 1920
theorem Drw.new {K : PySem.W.Frag} {H : Hp} {s sc : Addr} {ns : List Int} (D : Drw K H s sc ns) {l : Addr} {o : HO} (hl : H l = none) : Drw K (L2.upd H l o) s sc ns :=
  D.stay (Keep.same (F := []) (same_upd hl)) (by simp) (fun _ => by simp)
theorem Drw.same {K : PySem.W.Frag} {H H' : Hp} {s sc : Addr} {ns : List Int} (D : Drw K H s sc ns) (e : Same H H') : Drw K H' s sc ns :=
  D.stay (Keep.same (F := []) e) (by simp) (fun _ => by simp)
theorem rep_papers (k : Nat) : (List.replicate k [V.str "paper"]).flatten = (List.replicate k ("paper" : Str)).map V.str := by
  induction k with
  | zero => rfl
  | succ k ih =>
    rw [List.replicate_succ, List.replicate_succ, List.flatten_cons, ih]
    rfl
theorem Drw.ns {K : PySem.W.Frag} {H : Hp} {s sc l : Addr} {ns : List Int} (D : Drw K H s sc ns) (hl : H l = none) : l ∉ [s] := fun z => by
  obtain ⟨i, m, r, e, _⟩ := D.at_
  rw [List.mem_singleton.mp z, e] at hl
  cases hl
theorem Drw.over {K : PySem.W.Frag} {H H' : Hp} {s sc l : Addr} {ns : List Int} {o : HO} (D : Drw K H s sc ns) (k : Keep [s] H H') (D' : Drw K H' s sc ns) (hl : H l = none) : Drw K (L2.upd H' l o) s sc ns := by
  have nls := D.ns hl
  obtain ⟨i, m, r, e, h⟩ := D'.at_
  refine ⟨D.sq.elim .inl fun q => .inr ⟨?_, q.2⟩, i, m, r, by rw [upd_ne (fun z => nls (by rw [z]; exact List.mem_singleton.mpr rfl))]; exact e, h⟩
  have h1 := k.rd q.1 (fun z => q.2 (List.mem_singleton.mp z))
  have ne : sc ≠ l := fun z => by
    rcases q.1 with g | ⟨ob, g⟩ <;> rw [z, hl] at g <;> cases g
  rcases h1 with g | ⟨ob, g⟩
  · exact .inl (by rw [upd_ne ne]; exact g)
  · exact .inr ⟨ob, by rw [upd_ne ne]; exact g⟩
theorem at_in4 {v : Int} (h0 : 0 ≤ v) (h1 : v < 4) : ∃ x, atI [V.int 9, V.int 9, V.int 9, V.int 400] v = some (.int x) ∧ 1 ≤ x ∧ x ≤ 400 := by
  have : v = 0 ∨ v = 1 ∨ v = 2 ∨ v = 3 := by omega
  rcases this with rfl | rfl | rfl | rfl
  · exact ⟨9, rfl, by decide, by decide⟩
  · exact ⟨9, rfl, by decide, by decide⟩
  · exact ⟨9, rfl, by decide, by decide⟩
  · exact ⟨400, rfl, by decide, by decide⟩
theorem at_two {v : Int} (h0 : 0 ≤ v) (h1 : v < 2) (a b : V) : atI [a, b] v = some (if v = 0 then a else b) := by
  have : v = 0 ∨ v = 1 := by omega
  rcases this with rfl | rfl
  · rfl
  · rfl
theorem at_three {v : Int} (h0 : 0 ≤ v) (h1 : v < 3) (a b c : V) : atI [a, b, c] v = some (if v = 0 then a else if v = 1 then b else c) := by
  have : v = 0 ∨ v = 1 ∨ v = 2 := by omega
  rcases this with rfl | rfl | rfl
  · rfl
  · rfl
  · rfl
theorem at_four {v : Int} (h0 : 0 ≤ v) (h1 : v < 4) (a b c d : Str) : ∃ x, atI [V.str a, V.str b, V.str c, V.str d] v = some (.str x) ∧ (x = a ∨ x = b ∨ x = c ∨ x = d) := by
  have : v = 0 ∨ v = 1 ∨ v = 2 ∨ v = 3 := by omega
  rcases this with rfl | rfl | rfl | rfl
  · exact ⟨a, rfl, .inl rfl⟩
  · exact ⟨b, rfl, .inr (.inl rfl)⟩
  · exact ⟨c, rfl, .inr (.inr (.inl rfl))⟩
  · exact ⟨d, rfl, .inr (.inr (.inr rfl))⟩
theorem log59 {x : Int} (h0 : 0 - 10 ^ 59 ≤ x) (h1 : x < 10 ^ 59 + 1000) : x.natAbs.log2 < 1920 := by
  by_cases c : x.natAbs = 0
  · rw [c]
    decide
  · have h : x.natAbs < 2 ^ 1920 := by
      have e1 : (10 : Nat) ^ 59 + 1000 < 2 ^ 1920 := by decide +kernel
      have e2 : ((10 : Nat) ^ 59 : Int) = 10 ^ 59 := by norm_cast
      omega
    exact (Nat.log2_lt c).mpr h
theorem at_three_i {v : Int} (h0 : 0 ≤ v) (h1 : v < 3) : ∃ x : Int, atI [V.int 1, V.int 200, V.int ((10 : Int) ^ (59 : Int).toNat)] v = some (.int x) ∧ 1 ≤ x ∧ x ≤ 10 ^ 59 := by
  have : v = 0 ∨ v = 1 ∨ v = 2 := by omega
  rcases this with rfl | rfl | rfl
  · exact ⟨1, rfl, by decide, by decide +kernel⟩
  · exact ⟨200, rfl, by decide, by decide +kernel⟩
  · exact ⟨10 ^ 59, rfl, by decide +kernel, Int.le_refl _⟩
theorem intOk59 {x : Int} (h0 : 0 - 1 - 10 ^ 59 ≤ x) (h1 : x < 10 ^ 59 + 2000) : IntOk x := by
  unfold IntOk
  by_cases c : x.natAbs = 0
  · rw [c]
    decide
  · have h : x.natAbs < 2 ^ 1920 := by
      have e1 : (10 : Nat) ^ 59 + 2000 < 2 ^ 1920 := by decide +kernel
      have e2 : ((10 : Nat) ^ 59 : Int) = 10 ^ 59 := by norm_cast
      omega
    exact (Nat.log2_lt c).mpr h
theorem intOkS {x : Int} (h0 : 0 ≤ x) (h1 : x ≤ 1000) : IntOk x := by
  obtain ⟨n, rfl⟩ := Int.eq_ofNat_of_zero_le h0
  exact log_nat (by omega)
end Nu
namespace Nu
open PySem PySem.Spec PyProof.Rows L2
section
variable {P : Program} {w : World} {K : PySem.W.Frag} {mg : Str → Option Value} {base : Heap} {ad : Ad} {fd : Fd}
def spFar (K : PySem.W.Frag) : Sp := fun vs H Q _ => ∃ (s sc : Addr) (ns : List Int) (most : Int), vs = [.ref s, .int most] ∧ Drw K H s sc ns ∧ 0 ≤ most ∧ most ≤ 1000 ∧ ∀ v H', IntOk v → (v < 0 ∨ most < v) → Keep [s] H H' → Drw K H' s sc ns → Q (.int v) H'
theorem ok_l_far (T : Txt K mg ad fd) : FnOk P w K mg base CX0 2 ad.l_far fd.l_far ["_law_state", "_law_most"] (spFar K) := by
  have G_l_drawn := ok_l_drawn (P := P) (w := w) (base := base) T
  refine T.F_l_far.ok sc_l_far (fun vs H Q E h => ?_) (fun cdv A0 outer s0 H vs Q E hr h => ?_)
  · obtain ⟨s, sc, ns, most, rfl, _⟩ := h
    rfl
  · obtain ⟨s, sc, ns, most, rfl, D, m0, m1, k⟩ := h
    refine ⟨_, (pss_cons (ps_set (i := 2) sc_l_far.nd rfl (Or.inl rfl) (pe_ix ix_list (pe_lst (pa_cons pe_int (pa_cons pe_int (pa_cons (pe_op op_pow pe_int pe_int) pa_nil)))) (pe_call G_l_drawn (hr.mono (by decide)) (by rfl) T.g_l_drawn T.F_l_drawn.kp T.b_l_drawn .nil pass0 (pa_cons (pv 0) (pa_cons pe_int pa_nil))) (fun _ _ => rfl)))
    (pss_one (ps_ret (pe_ix ix_list (pe_lst (pa_cons (pe_op op_sub (pe_op op_sub pe_int pe_int) (pe_call G_l_drawn (hr.mono (by decide)) (by rfl) T.g_l_drawn T.F_l_drawn.kp T.b_l_drawn .nil pass0 (pa_cons (pv 0) (pa_cons (pv 2) pa_nil)))) (pa_cons (pe_op op_add (pe_op op_add (pv 1) pe_int) (pe_call G_l_drawn (hr.mono (by decide)) (by rfl) T.g_l_drawn T.F_l_drawn.kp T.b_l_drawn .nil pass0 (pa_cons (pv 0) (pa_cons (pv 2) pa_nil)))) pa_nil))) (pe_call G_l_drawn (hr.mono (by decide)) (by rfl) T.g_l_drawn T.F_l_drawn.kp T.b_l_drawn .nil pass0 (pa_cons (pv 0) (pa_cons pe_int pa_nil))) (fun _ _ => rfl))))), ?_⟩
    refine ⟨_, _, rfl, rfl, ⟨by decide, by decide, by decide⟩, ?_⟩
    refine ⟨(by show 3 ≤ sizeLine; decide), fun l3 n3 => ?_⟩
    refine ⟨_, rfl, s, sc, ns, 3, rfl, D.new n3, by decide, by decide, fun v H1 v0 v1 k1 D1 => ?_⟩
    have kA : Keep [s] H H1 := (Keep.same (same_upd n3)).trans k1
    obtain ⟨x, hx, x1, x2⟩ := at_three_i v0 v1
    refine ⟨l3, _, v, _, rfl, rfl, SqL.of (k1 _ _ upd_same (D.ns n3)), hx, ?_⟩
    have xlog : x.natAbs.log2 < 9000 := by
      have := intOk59 (x := x) (by omega) (by omega)
      unfold IntOk at this
      omega
    refine ⟨_, _, rfl, rfl, ?_⟩
    refine ⟨_, rfl, _, rfl, s, sc, ns, x, rfl, D1, x1, xlog, fun v2 H2 a0 a1 k2 D2 => ?_⟩
    refine ⟨_, _, rfl, rfl, ?_⟩
    refine ⟨_, rfl, _, _, rfl, rfl, ?_⟩
    refine ⟨_, rfl, _, rfl, s, sc, ns, x, rfl, D2, x1, xlog, fun v3 H3 b0 b1 k3 D3 => ?_⟩
    refine ⟨_, _, rfl, rfl, ?_⟩
    refine ⟨(by show 2 ≤ sizeLine; decide), fun l2 n2 => ?_⟩
    refine ⟨_, rfl, s, sc, ns, 2, rfl, D3.new n2, by decide, by decide, fun v4 H4 c0 c1 k4 D4 => ?_⟩
    have kB : Keep [s] H H4 := ((kA.trans k2).trans k3).trans ((Keep.same (same_upd n2)).trans k4)
    refine ⟨l2, _, v4, _, rfl, rfl, SqL.of (k4 _ _ upd_same (D3.ns n2)), at_two c0 c1 _ _, ?_⟩
    by_cases c : v4 = 0
    · rw [if_pos c]
      exact k _ H4 (intOk59 (by omega) (by omega)) (by omega) kB D4
    · rw [if_neg c]
      exact k _ H4 (intOk59 (by omega) (by omega)) (by omega) kB D4
end
end Nu
namespace Nu
open PySem PyProof.Rows L2
section
variable {pg : Program} {w : World} {A : Around} {I S : Addr} {fp wr : List Addr} {n : Nat} {P : Nat → Value → Prop} {St : Nat → Heap → Prop} {bt : Nat → Nat → Bool} {d : Value} {R : Result → Shared → Prop}
theorem mx_name : (toString "max" ++ toString ".loop" : String) = "max.loop" := by decide
/-- the walk of max, with a default -/
theorem mxd_loop (Wk : Walks pg w A.in1 I fp wr n P St) (cmp : CmpOf pg w A.in1 .Gt P bt) (sf : S ∉ fp) : ∀ (k j : Nat) (s : Shared) (its : Array Value) (c : Nat), n - j = k → j ≤ n → St j s.heap →
    ((j = 0 ∧ its = #[]) ∨ (0 < j ∧ ∃ v, its = #[v, v] ∧ P (argBest bt (j - 1)) v)) → s.heap.get? S = some { cls := .type "list", dict := none, data := .seq its c, slots := #[] } →
    (∀ v h' tk, (n = 0 ∧ v = d) ∨ (0 < n ∧ P (argBest bt (n - 1)) v) → (∀ b o, b ∉ wr → b ≠ S → s.heap.get? b = some o → h'.get? b = some o) → R (.ok (.ret v)) { s with heap := h', toks := tk }) →
    codeAny (model pg w) A (.builtin "max.loop" ⟨[.ref I, .none, .ref S], [("default", d)]⟩) R s := by
  have sw : S ∉ wr := fun q => sf (Wk.sub _ q)
  intro k
  induction k with
  | zero =>
    intro j s its c hk hj hst hb hS hR
    have hjn : j = n := by omega
    subst hjn
    refine codeAny_builtin F.entry_max_loop ?_
    rw [Around.under_plainId F.plain_max_loop _]
    refine (show wpAny _ A.in1 (seqItems? (.ref S) >>= _) _ _ s from wpAny_bind (wpAny_seqItems hS rfl ?_))
    refine (show wpAny _ A.in1 (tryCatch (pyNext (.ref I)) _ >>= _) _ _ s from wpAny_bind (wpAny_tryCatch (Wk.done s _ _ hst fun h' tk hk' => ?_)))
    have hS1 := hk' S _ sw hS
    rcases hb with ⟨j0, rfl⟩ | ⟨jp, v, rfl, hv⟩
    · refine wpAny_bind (wpAny_rule ?_)
      exact wpAny_pure (hR d _ tk (.inl ⟨j0, rfl⟩) fun b o b1 b2 e => hk' b o b1 e)
    · refine (show wpAny _ A.in1 (updateSeq S (fun _ => #[]) >>= _) _ _ _ from wpAny_bind ?_)
      refine wpAny_updateSeq hS1 rfl (wpAny_bind (wpAny_letGo (wpAny_pure ?_)))
      exact hR v _ tk (.inr ⟨jp, hv⟩) fun b o b1 b2 e => (Heap.get?_update_other _ _ (Ne.symm b2)).trans (hk' b o b1 e)
  | succ k ih =>
    intro j s its c hk hj hst hb hS hR
    have hlt : j < n := by omega
    refine codeAny_builtin F.entry_max_loop ?_
    rw [Around.under_plainId F.plain_max_loop _]
    refine (show wpAny _ A.in1 (seqItems? (.ref S) >>= _) _ _ s from wpAny_bind (wpAny_seqItems hS rfl ?_))
    refine (show wpAny _ A.in1 (tryCatch (pyNext (.ref I)) _ >>= _) _ _ s from wpAny_bind (wpAny_tryCatch (Wk.item j s _ _ hlt hst fun v h' tk hP hst' hk' => ?_)))
    have hS1 := hk' S _ sw hS
    have fr : ∀ (its' : Array Value), St (j + 1) (h'.update S (Obj.mapSeq fun _ => its')) := fun its' => Wk.frame _ _ _ hst' fun b bf o e => (Heap.get?_update_other _ _ (fun q : S = b => sf (by rw [q]; exact bf))).trans e
    have kp : ∀ (its' : Array Value), ∀ b o, b ∉ wr → b ≠ S → s.heap.get? b = some o → (h'.update S (Obj.mapSeq fun _ => its')).get? b = some o := fun its' b o b1 b2 e => (Heap.get?_update_other _ _ (Ne.symm b2)).trans (hk' b o b1 e)
    rcases hb with ⟨j0, rfl⟩ | ⟨jp, u, rfl, hu⟩
    · refine (show wpAny _ A.in1 (updateSeq S (fun _ => #[v, v]) >>= _) _ _ _ from wpAny_bind ?_)
      refine wpAny_updateSeq hS1 rfl ?_
      rw [mx_name]
      refine wpAny_pure ⟨plainId_quiet F.plain_max_loop _, ih (j + 1) _ #[v, v] _ (by omega) hlt (fr _) (.inr ⟨Nat.succ_pos _, v, rfl, ?_⟩) (Heap.get?_update_self _ hS1 rfl) fun v' h2 tk2 q2 kp2 => hR v' h2 tk2 q2 fun b o b1 b2 e => kp2 b o b1 b2 (kp _ b o b1 b2 e)⟩
      subst j0
      exact hP
    · refine (show wpAny _ A.in1 (tryCatch (holding [v, v] (richCompare .Gt v u >>= _)) _ >>= _) _ _ _ from ?_)
      refine wpAny_bind (wpAny_tryCatch (wpAny_holding (wpAny_bind (cmp j (argBest bt (j - 1)) v u _ _ _ hP hu ?_))))
      refine wpAny_bind (wpAny_holding (wpAny_truthy_bool (wpAny_bind (wpAny_letGo (wpAny_pure ?_)))))
      have step : argBest bt j = if bt j (argBest bt (j - 1)) then j else argBest bt (j - 1) := by
        obtain ⟨i, rfl⟩ : ∃ i, j = i + 1 := ⟨j - 1, by omega⟩
        rfl
      cases hb : bt j (argBest bt (j - 1)) with
      | true =>
        rw [if_pos rfl]
        refine wpAny_bind (wpAny_updateSeq hS1 rfl (wpAny_bind (wpAny_letGo ?_)))
        rw [mx_name]
        refine wpAny_pure ⟨plainId_quiet F.plain_max_loop _, ih (j + 1) _ #[v, v] _ (by omega) hlt (fr _) (.inr ⟨Nat.succ_pos _, v, rfl, ?_⟩) (Heap.get?_update_self _ hS1 rfl) fun v' h2 tk2 q2 kp2 => hR v' h2 tk2 q2 fun b o b1 b2 e => kp2 b o b1 b2 (kp _ b o b1 b2 e)⟩
        rw [Nat.add_sub_cancel, step, hb]
        exact hP
      | false =>
        rw [if_neg (by simp)]
        refine wpAny_bind (wpAny_letGo ?_)
        rw [mx_name]
        refine wpAny_pure ⟨plainId_quiet F.plain_max_loop _, ih (j + 1) _ #[u, u] _ (by omega) hlt hst' (.inr ⟨Nat.succ_pos _, u, rfl, ?_⟩) hS1 fun v' h2 tk2 q2 kp2 => hR v' h2 tk2 q2 fun b o b1 b2 e => kp2 b o b1 b2 (hk' b o b1 e)⟩
        rw [Nat.add_sub_cancel, step, hb]
        exact hu
end
section
variable {pg : Program} {w : World} {A : Around} {E : Value → Shared → Prop} {s : Shared} {l : Addr} {d : Value} {xs : Array (Int × Tok)} {Q : Value → Shared → Prop}
theorem mx_args (l : Addr) (d : Value) : argsOk "max" ⟨[.ref l], [("default", d)]⟩ := by
  unfold argsOk
  kernel_rfl
theorem mx_call (hh : A.handled = none) (hl : s.heap.IsList l (intItems xs))
    (h : ∀ v h' tk, (xs.size = 0 ∧ v = d) ∨ (0 < xs.size ∧ (intItems xs)[argBest (fun i j => decide (numAt xs i > numAt xs j)) (xs.size - 1)]? = some v) → (∀ b o, s.heap.get? b = some o → h'.get? b = some o) → Q v { s with heap := h', toks := tk }) :
    wpAny (model pg w) A (call (.builtin "max") [.ref l] [("default", d)]) Q E s := by
  refine wpAny_call (codeAny_call_builtin F.plain_max F.entry_max ?_)
  have ha := mx_args l d
  have main : wpAny (model pg w) A.in1 (Builtin.«max» ⟨[.ref l], [("default", d)]⟩) (fun fin s' => match fin with
      | .done f => (match (Except.ok f : Result) with | .ok (.ret v) => Q v s' | .ok _ => False | .error e => E e s')
      | .again c' => c'.quiet = true ∧ codeAny (model pg w) A c' (fun r s' => match r with | .ok (.ret v) => Q v s' | .ok _ => False | .error e => E e s') s') E s := by
    refine (show wpAny _ A.in1 (Builtin.Builtins.bindParams "max" ["key", "default"] 0 ⟨[], [("default", d)]⟩ >>= _) _ _ s from ?_)
    refine wpAny_bind (wpAny_of_eq (show Builtin.Builtins.bindParams "max" ["key", "default"] 0 ⟨[], [("default", d)]⟩ = pure [none, some d] from rfl) ?_)
    refine wpAny_bind (wpAny_pure ?_)
    refine wpAny_bind (iter_intList hl fun s2 e st hfp hlI => ?_)
    subst e
    refine wpAny_bind (wpAny_newObj_type ?_)
    rw [mx_name]
    have Wk : Walks pg w A.in1 s.heap.objs.size [s.heap.objs.size, l] [s.heap.objs.size] (intItems xs).size (fun i v => (intItems xs)[i]? = some v) (fun i h => h.IsListIter s.heap.objs.size l i ∧ h.IsList l (intItems xs)) := Walks.list (A := A.in1) hh _ l hlI (intItems xs)
    have hsz : (intItems xs).size = xs.size := by simp [intItems]
    refine wpAny_pure ⟨plainId_quiet F.plain_max_loop _, mxd_loop Wk (CmpOf.ints_gt (numAt xs) (fun _ _ => intItems_at)) (fun q => Nat.lt_irrefl _ (hfp _ q)) _ 0 _ #[] _ rfl (Nat.zero_le _) (Wk.frame _ _ _ st fun b _ o e => Heap.get?_push_of_some _ e) (.inl ⟨rfl, rfl⟩) (Heap.get?_push_size _ rfl) fun v h' tk hv hk => ?_⟩
    rw [hsz] at hv
    refine h v h' tk hv fun b o e => ?_
    have hb := Heap.lt_size e
    refine hk b o (fun q => ?_) ?_ (Heap.get?_push_of_some _ (Heap.get?_push_of_some _ e))
    · rw [List.mem_singleton.mp q] at hb
      exact Nat.lt_irrefl _ hb
    · intro q
      rw [q] at hb
      have hb : (s.heap.push { cls := .type "list_iterator", data := .fields #[.ref l, .int 0 0] }).objs.size < s.heap.objs.size := hb
      rw [Heap.size_push] at hb
      omega
  simp only [checkBuiltinCall, F.kind_max]
  cases hg : Manifest.signature? "max" with
  | none => exact wpAny_pure main
  | some g =>
    have hx : Bind.checkArgs "max" g ⟨[.ref l], [("default", d)]⟩ = pure () := by
      rw [argsOk, hg] at ha
      exact ha
    simp only [hx]
    exact wpAny_pure main
end
def rMaxDef (K : PySem.W.Frag) : List V → List V → Hp → VK → Prop := fun xs zs H Q => ∃ (a : Addr) (ns : List Int) (dv : Int), xs = [.ref a] ∧ zs = [.int dv] ∧ SqL K H a (ns.map V.int) ∧ ∀ m, (ns = [] ∧ m = dv) ∨ (m ∈ ns ∧ ∀ y ∈ ns, y ≤ m) → Q (.int m) H
/-- max(a list of whole numbers, default=a whole number) -/
theorem cr_maxDef {X : Cx} (hc : X.calm = true) : CallRK X (.builtin "max") ["default"] (rMaxDef X.K) := by
  intro pins s σ H vs zs us ws Q I r rz h
  obtain ⟨a, ns, dv, rfl, rfl, hs, q⟩ := h
  obtain ⟨its, rv, hl, _⟩ := I.list hs
  rw [Vals.ref1 r]
  cases rz with
  | cons rd rt =>
    cases rt
    obtain ⟨td, rfl⟩ := rd
    obtain ⟨xs, e⟩ := rv.ints.allInts.items
    have hn : numsOf (intItems xs).toList = ns := by rw [← e]; exact rv.ints.numsOf
    rw [nums_intItems] at hn
    have hl2 := hl.isList
    rw [e] at hl2
    refine mx_call (I.ok.hd hc) hl2 fun v h' tk hv hk => ?_
    rcases hv with ⟨h0, rfl⟩ | ⟨h0, hv⟩
    · refine ⟨.int dv, H, I.kept hk, ⟨_, rfl⟩, q dv (.inl ⟨?_, rfl⟩)⟩
      rw [← hn]
      have : xs.toList = [] := by
        rw [← List.length_eq_zero_iff, Array.length_toList]
        exact h0
      rw [this]
      rfl
    · obtain ⟨t, rfl⟩ := intItems_at hv
      obtain ⟨h1, h2⟩ := argBest_gt (numAt xs) (xs.size - 1)
      refine ⟨.int _, H, I.kept hk, ⟨_, rfl⟩, q _ (.inr ⟨?_, fun y hy => ?_⟩)⟩
      · rw [← hn, numAt_eq]
        exact PySem.getD_mem (by rw [List.length_map, Array.length_toList]; omega)
      · rw [← hn] at hy
        obtain ⟨j, hj, rfl⟩ := mem_getD hy
        rw [List.length_map, Array.length_toList] at hj
        rw [← numAt_eq]
        exact h2 j (by omega)
end Nu
namespace Nu
open PySem PySem.Spec PyProof.Rows L2
def usedB (z : Str) : Bool := decide (z = "paper") || (decide (z = "spoilt") || decide (z = "used"))
/-- the greatest number that was used; 0 where none was -/
def Greatest (top : Nat) (st : Int → Str) (g : Int) : Prop := (g = 0 ∧ ∀ n : Int, 1 ≤ n → n ≤ (top : Int) → usedB (st n) = false) ∨ (1 ≤ g ∧ g ≤ (top : Int) ∧ usedB (st g) = true ∧ ∀ n : Int, 1 ≤ n → n ≤ (top : Int) → usedB (st n) = true → n ≤ g)
theorem Greatest.uniq {t : Nat} {st : Int → Str} {g h : Int} (a : Greatest t st g) (b : Greatest t st h) : g = h := by
  rcases a with ⟨rfl, a⟩ | ⟨a1, a2, a3, a4⟩
  · rcases b with ⟨rfl, _⟩ | ⟨b1, b2, b3, _⟩
    · rfl
    · rw [a h b1 b2] at b3
      cases b3
  · rcases b with ⟨rfl, b⟩ | ⟨b1, b2, b3, b4⟩
    · rw [b g a1 a2] at a3
      cases a3
    · have := a4 h b1 b2 b3
      have := b4 g a1 a2 a3
      omega
theorem Greatest.congr {t : Nat} {st st' : Int → Str} {g : Int} (a : Greatest t st g) (h : ∀ n : Int, 1 ≤ n → n ≤ (t : Int) → st n = st' n) : Greatest t st' g := by
  rcases a with ⟨e, a⟩ | ⟨a1, a2, a3, a4⟩
  · exact .inl ⟨e, fun n n1 n2 => by rw [← h n n1 n2]; exact a n n1 n2⟩
  · exact .inr ⟨a1, a2, by rw [← h g a1 a2]; exact a3, fun n n1 n2 q => a4 n n1 n2 (by rw [h n n1 n2]; exact q)⟩
/-- 1 .. k -/
def upto (k : Nat) : List Int := (List.range k).map fun (i : Nat) => (i : Int) + 1
theorem upto_succ (k : Nat) : upto (k + 1) = upto k ++ [(k : Int) + 1] := by
  unfold upto
  rw [List.range_succ, List.map_append]
  rfl
theorem mem_upto {k : Nat} {n : Int} : n ∈ upto k ↔ 1 ≤ n ∧ n ≤ (k : Int) := by
  unfold upto
  rw [List.mem_map]
  constructor
  · rintro ⟨i, hi, rfl⟩
    have := List.mem_range.mp hi
    omega
  · rintro ⟨h1, h2⟩
    exact ⟨(n - 1).toNat, List.mem_range.mpr (by omega), by omega⟩
theorem upto_len (k : Nat) : (upto k).length = k := by
  unfold upto
  rw [List.length_map, List.length_range]
/-- the numbers without a paper below g -/
def gapL (st : Int → Str) (k : Nat) : List Int := (upto k).filter fun n => !decide (st n = "paper")
theorem gapL_succ (st : Int → Str) (k : Nat) : gapL st (k + 1) = if (!decide (st ((k : Int) + 1) = "paper")) = true then gapL st k ++ [(k : Int) + 1] else gapL st k := by
  unfold gapL
  rw [upto_succ, filter_snoc]
theorem gapL_len (st : Int → Str) (k : Nat) : (gapL st k).length ≤ k := by
  refine Nat.le_trans (List.length_filter_le _ _) ?_
  rw [upto_len]
  exact Nat.le_refl _
def hoV : Option Int → V
  | some d => .int d
  | none => .non
def gapT (st : Int → Str) (ho : Int → Option Int) (n : Int) : List V := [.int n, .str (st n), hoV (ho n)]
/-- the gaps' tuples -/
def GapAt (H : Hp) (ts : List Addr) (gl : List Int) (st : Int → Str) (ho : Int → Option Int) : Prop := ts.length = gl.length ∧ ∀ (i : Nat) (t : Addr) (n : Int), ts[i]? = some t → gl[i]? = some n → H t = some (.tup (gapT st ho n))
theorem GapAt.same {H H' : Hp} {ts : List Addr} {gl : List Int} {st : Int → Str} {ho : Int → Option Int} (h : GapAt H ts gl st ho) (s : Same H H') : GapAt H' ts gl st ho := ⟨h.1, fun i t n a b => s _ _ (h.2 i t n a b)⟩
theorem GapAt.snoc {H : Hp} {ts : List Addr} {gl : List Int} {st : Int → Str} {ho : Int → Option Int} (h : GapAt H ts gl st ho) {t : Addr} {n : Int} (e : H t = some (.tup (gapT st ho n))) : GapAt H (ts ++ [t]) (gl ++ [n]) st ho := by
  refine ⟨by rw [List.length_append, List.length_append, h.1]; rfl, fun i t' n' a b => ?_⟩
  by_cases c : i < ts.length
  · rw [List.getElem?_append_left c] at a
    rw [List.getElem?_append_left (by rw [← h.1]; exact c)] at b
    exact h.2 i t' n' a b
  · rw [List.getElem?_append_right (by omega)] at a
    rw [List.getElem?_append_right (by rw [← h.1]; omega), ← h.1] at b
    have hi : i - ts.length = 0 := by
      have := (List.getElem?_eq_some_iff.mp a).1
      simp only [List.length_cons, List.length_nil] at this
      omega
    rw [hi] at a b
    cases a
    cases b
    exact e
section
variable {P : Program} {w : World} {K : PySem.W.Frag} {mg : Str → Option Value} {base : Heap} {a : Ad} {fd : Fd}
theorem ok_state_of (T : Txt K mg a fd) : FnOk P w K mg base (L2.CX P w) 2 a.state_of fd.state_of ["office", "number"] (spState a) := by
  have G_Office_state := ok_Office_state (P := P) (w := w) (base := base) T
  refine T.F_state_of.okX sc_state_of (fun vs H Q E h => ?_) (fun cdv A outer s H vs Q E hr h => ?_)
  · obtain ⟨F, o, n, rfl, _⟩ := h
    rfl
  · obtain ⟨F, o, n, rfl, O, hn, k1, k2⟩ := h
    have hu := hu_of hr
    refine ⟨_, (pss_one (ps_ret (pe_meth (pv 0) T.cl T.m_Office_state G_Office_state (hr.mono (by decide)) T.b_Office_state .nil passU (pa_cons (pv 1) pa_nil)))), ?_⟩
    exact ⟨_, rfl, F.p, F.dx, _, rfl, O.ob, ofl_m F, _, rfl, F, o, n, rfl, O, hn, k1, k2⟩
def spGreatest (a : Ad) : Sp := fun vs H Q _ => ∃ (F : Fp) (o : Of), vs = [.ref F.p] ∧ Off a H F o ∧ Wf o ∧ ∀ g H', Greatest o.top o.st g → Same H H' → Q (.int g) H'
theorem inV_used (x : Str) : inV (V.str x) [V.str "paper", V.str "spoilt", V.str "used"] = usedB x := by
  have e : ∀ y : Str, eqV (V.str y) (V.str x) = decide (x = y) := fun y => by
    show (y == x) = decide (x = y)
    by_cases c : x = y
    · rw [decide_eq_true c, c]
      exact beq_self_eq_true y
    · rw [decide_eq_false c]
      exact beq_eq_false_iff_ne.mpr (Ne.symm c)
  show (eqV (V.str "paper") (V.str x) || (eqV (V.str "spoilt") (V.str x) || (eqV (V.str "used") (V.str x) || false))) = _
  rw [e, e, e, Bool.or_false]
  rfl
theorem ok_greatest_used (T : Txt K mg a fd) : FnOk P w K mg base CX0 3 a.greatest_used fd.greatest_used ["office"] (spGreatest a) := by
  have G_Office_numbers := ok_Office_numbers (P := P) (w := w) (base := base) T
  have G_state_of := ok_state_of (P := P) (w := w) (base := base) T
  refine T.F_greatest_used.ok sc_greatest_used (fun vs H Q E h => ?_) (fun cdv A outer s H vs Q E hr h => ?_)
  · obtain ⟨F, o, rfl, _⟩ := h
    rfl
  · obtain ⟨F, o, rfl, O, W, k⟩ := h
    have hu := hu_of hr
    refine ⟨_, (pss_cons (ps_setLc (i := 1) (own := [("number", 2)]) (g := gName 2) (by rfl) sc_greatest_used.nd rfl rfl (sw_true rfl rfl rfl (by decide +kernel)) (pi_list (pe_meth0 (pv 0) T.cl T.m_Office_numbers G_Office_numbers (hr.mono (by decide)) T.b_Office_numbers .nil pass0)) (blkOk_by (own := [("number", 2)]) (N := ["office", "used", "number"]) (sc := defScope s_greatest_used) (by decide +kernel)) (fun _ _ _ _ _ => pg_name (i := 2) sc_greatest_used.nd rfl (Or.inl rfl)) (fun _ _ _ _ _ => (pts_one (pt_cmpR (inSeq_K (K := K) rfl) (pe_call G_state_of (hr.mono (by decide)) (by rfl) T.g_state_of T.F_state_of.kp T.b_state_of .nil passL (pa_cons (pv 0) (pa_cons (pv 2) pa_nil))) (pe_tup (pa_cons (pe_gs (by rfl) T.g_PAPER) (pa_cons (pe_gs (by rfl) T.g_SPOILT) (pa_cons (pe_gs (by rfl) T.g_USED) pa_nil)))) (by rfl)))) (fun _ _ _ _ _ => (pv 2)))
    (pss_one (ps_ret (pe_callBK (cr_maxDef rfl) (by rfl) T.n_max (by decide +kernel) (pa_cons (pv 1) pa_nil) (pk_cons pe_int pk_nil))))), ?_⟩
    have h4 := W.t400
    refine ⟨_, rfl, F.p, F.dx, _, rfl, O.ob, ofl_m F, F, o, rfl, O, fun p np => ?_⟩
    have em : ((List.range o.top).map fun (i : Nat) => V.int ((i : Int) + 1)) = (upto o.top).map V.int := by
      unfold upto
      rw [List.map_map]
      rfl
    rw [em]
    have O1 : Off a (upd H p (.lst ((upto o.top).map V.int))) F o := O.upd_new np
    have s1 : Same H (upd H p (.lst ((upto o.top).map V.int))) := same_upd np
    have hp1 : (upd H p (.lst ((upto o.top).map V.int))) p = some (.lst ((upto o.top).map V.int)) := upd_same
    generalize upd H p (.lst ((upto o.top).map V.int)) = H1 at O1 s1 hp1 ⊢
    refine ⟨p, rfl, ⟨_, SqL.of hp1⟩, fun D nD => lc_list (K := K) (a := p) (xs := (upto o.top).map V.int)
      (fun j H' => Same H1 H' ∧ H' D = some (.lst ((((upto o.top).take j).filter fun n => usedB (o.st n)).map V.int)))
      ⟨same_upd nD, by rw [List.take_zero]; exact upd_same⟩ (fun j H' _ ⟨s2, _⟩ => SqL.of (s2 _ _ hp1)) ?_ ?_⟩
    · rintro j x H' hj ⟨s2, hD⟩
      obtain ⟨n, hn, rfl⟩ := map_int_at hj
      have b := mem_upto.mp (List.mem_of_getElem? hn)
      have O2 : Off a H' F o := O1.stay fun c _ u e => s2 c u e
      refine ⟨wipe1 _ _ _, ?_⟩
      refine ⟨_, rfl, _, rfl, F, o, n, rfl, O2, intOkS (by omega) (by omega), fun c => absurd b c, fun _ => ?_⟩
      refine ⟨(by show 3 ≤ sizeLine; decide), fun e ne => ⟨e, _, rfl, .inr (SqT.of upd_same), rfl, rfl, _, rfl, ?_⟩⟩
      rw [if_neg (by simp), inV_used]
      have eD : D ≠ e := fun z => by rw [← z, hD] at ne; cases ne
      have lenb : ((((upto o.top).take j).filter fun n => usedB (o.st n)).map V.int).length ≤ 400 := by
        rw [List.length_map]
        refine Nat.le_trans (List.length_filter_le _ _) (Nat.le_trans (List.length_take_le' _ _) ?_)
        rw [upto_len]
        exact h4
      have ft : ((upto o.top).take (j + 1)).filter (fun n => usedB (o.st n)) = if usedB (o.st n) = true then ((upto o.top).take j).filter (fun n => usedB (o.st n)) ++ [n] else ((upto o.top).take j).filter fun n => usedB (o.st n) := by
        rw [take_snoc hn, filter_snoc]
      cases c : usedB (o.st n) with
      | true =>
        rw [if_pos c] at ft
        refine iteT ?_
        refine ⟨_, rfl, _, by rw [upd_ne eD]; exact hD, small1000 (by omega), fun c' u ec => ?_, ?_⟩
        · rw [upd_ne (fun z => by rw [z, nD] at ec; cases ec), upd_ne (fun z => by have h9 := s2 c' u ec; rw [z, ne] at h9; cases h9)]
          exact s2 c' u ec
        · rw [ft, upd_same]
          simp only [List.map_append, List.map_cons, List.map_nil]
      | false =>
        rw [if_neg (by rw [c]; simp)] at ft
        refine iteF ⟨s2.trans (same_upd ne), ?_⟩
        rw [ft, upd_ne eD]
        exact hD
    · rintro H' ⟨s2, hD⟩
      have el : (upto o.top).take ((upto o.top).map V.int).length = upto o.top := by rw [List.length_map, List.take_length]
      rw [el] at hD
      refine ⟨_, rfl, D, (upto o.top).filter fun n => usedB (o.st n), 0, rfl, rfl, SqL.of hD, fun m hm => k m H' ?_ (s1.trans s2)⟩
      rcases hm with ⟨he, rfl⟩ | ⟨hm, hle⟩
      · refine .inl ⟨rfl, fun n n1 n2 => ?_⟩
        cases c : usedB (o.st n) with
        | false => rfl
        | true =>
          have := (List.mem_filter (p := fun n => usedB (o.st n))).mpr ⟨mem_upto.mpr ⟨n1, n2⟩, c⟩
          rw [he] at this
          cases this
      · obtain ⟨h1, h2⟩ := List.mem_filter.mp hm
        have b := mem_upto.mp h1
        exact .inr ⟨b.1, b.2, h2, fun n n1 n2 c => hle n ((List.mem_filter (p := fun n => usedB (o.st n))).mpr ⟨mem_upto.mpr ⟨n1, n2⟩, c⟩)⟩
def spGaps (a : Ad) : Sp := fun vs H Q _ => ∃ (F : Fp) (o : Of), vs = [.ref F.p] ∧ Off a H F o ∧ Wf o ∧ ∀ (g : Int) (p : Addr) (ts : List Addr) (H' : Hp), Greatest o.top o.st g → Same H H' → H p = none → H' p = some (.lst (ts.map V.ref)) → GapAt H' ts (gapL o.st (g - 1).toNat) o.st o.ho → Q (.ref p) H'
theorem ok_gaps (T : Txt K mg a fd) : FnOk P w K mg base CX0 4 a.gaps fd.gaps ["office"] (spGaps a) := by
  have G_greatest_used := ok_greatest_used (P := P) (w := w) (base := base) T
  have G_state_of := ok_state_of (P := P) (w := w) (base := base) T
  have G_Office_holder := ok_Office_holder (P := P) (w := w) (base := base) T
  refine T.F_gaps.ok sc_gaps (fun vs H Q E h => ?_) (fun cdv A outer s H vs Q E hr h => ?_)
  · obtain ⟨F, o, rfl, _⟩ := h
    rfl
  · obtain ⟨F, o, rfl, O, W, k⟩ := h
    have hu := hu_of hr
    refine ⟨_, (pss_cons (ps_set (i := 1) sc_gaps.nd rfl (Or.inl rfl) (pe_call G_greatest_used (hr.mono (by decide)) (by rfl) T.g_greatest_used T.F_greatest_used.kp T.b_greatest_used .nil pass0 (pa_cons (pv 0) pa_nil)))
    (pss_one (ps_ret (pe_lc (own := [("number", 2)]) (g := gName 2) (by rfl) sc_gaps.nd (pi_range2 (by rfl) T.n_range (pa_cons pe_int (pa_cons (pv 1) pa_nil))) (blkOk_by (own := [("number", 2)]) (N := ["office", "greatest", "number"]) (sc := defScope s_gaps) (by decide +kernel)) (fun _ _ _ _ _ => pg_name (i := 2) sc_gaps.nd rfl (Or.inl rfl)) (fun _ _ _ _ _ => (pts_one (pt_cmpR op_ne (pe_call G_state_of (hr.mono (by decide)) (by rfl) T.g_state_of T.F_state_of.kp T.b_state_of .nil passL (pa_cons (pv 0) (pa_cons (pv 2) pa_nil))) (pe_gs (by rfl) T.g_PAPER) (nomark _)))) (fun _ _ _ _ _ => (pe_tup (pa_cons (pv 2) (pa_cons (pe_call G_state_of (hr.mono (by decide)) (by rfl) T.g_state_of T.F_state_of.kp T.b_state_of .nil passL (pa_cons (pv 0) (pa_cons (pv 2) pa_nil))) (pa_cons (pe_meth (pv 0) T.cl T.m_Office_holder G_Office_holder (hr.mono (by decide)) T.b_Office_holder .nil pass0 (pa_cons (pv 2) pa_nil)) pa_nil))))))))), ?_⟩
    have h4 := W.t400
    refine ⟨_, rfl, F, o, rfl, O, W, fun g H1 hg s1 => ?_⟩
    have O1 : Off a H1 F o := O.stay fun c _ u e => s1 c u e
    have g0 : 0 ≤ g ∧ g ≤ (o.top : Int) := by
      rcases hg with ⟨rfl, _⟩ | ⟨a1, a2, _⟩ <;> omega
    refine ⟨_, rfl, 1, g, rfl, ⟨by omega, by omega, by omega, by omega⟩, fun D nD => ?_⟩
    refine lc_range (lo := 1) (n := (g - 1).toNat) (fun j H' => Same H1 H' ∧ ∃ ts : List Addr, H' D = some (.lst (ts.map V.ref)) ∧ GapAt H' ts (gapL o.st j) o.st o.ho)
      ⟨same_upd nD, [], upd_same, rfl, fun i t n e _ => by simp at e⟩ ?_ ?_
    · rintro j H' hj ⟨s2, ts, hD, hG⟩
      have O2 : Off a H' F o := O1.stay fun c _ u e => s2 c u e
      have en : (1 : Int) + (j : Int) = (j : Int) + 1 := by omega
      rw [en]
      refine ⟨wipe1 _ _ _, ?_⟩
      refine ⟨_, rfl, _, rfl, F, o, (j : Int) + 1, rfl, O2, intOkS (by omega) (by omega), fun c => absurd (by omega) c, fun _ => ?_⟩
      have gs := gapL_succ o.st j
      refine ⟨rfl, _, rfl, ?_⟩
      by_cases c : o.st ((j : Int) + 1) = "paper"
      · rw [dneF c]
        rw [if_neg (by rw [decide_eq_true c]; simp)] at gs
        refine iteF ⟨s2, ts, hD, ?_⟩
        rw [gs]
        exact hG
      · rw [dneT c]
        rw [if_pos (by rw [decide_eq_false c]; rfl)] at gs
        refine iteT ?_
        refine ⟨_, rfl, _, rfl, _, rfl, F, o, (j : Int) + 1, rfl, O2, intOkS (by omega) (by omega), fun c => absurd (by omega) c, fun _ => ?_⟩
        refine ⟨_, rfl, F.p, F.dx, _, rfl, O2.ob, ofl_m F, _, rfl, F, o, (j : Int) + 1, rfl, O2, ?_⟩
        refine ⟨(by show 3 ≤ sizeLine; decide), fun t nt => ?_⟩
        have tD : D ≠ t := fun z => by rw [← z, hD] at nt; cases nt
        have hlen : ts.length ≤ 400 := by
          have := gapL_len o.st j
          rw [hG.1]
          omega
        refine ⟨_, by rw [upd_ne tD]; exact hD, small1000 (by rw [List.length_map]; omega), fun c' u ec => ?_, ts ++ [t], ?_, ?_⟩
        · rw [upd_ne (fun z => by rw [z, nD] at ec; cases ec), upd_ne (fun z => by have h9 := s2 c' u ec; rw [z, nt] at h9; cases h9)]
          exact s2 c' u ec
        · rw [upd_same, List.map_append]
          rfl
        · rw [gs]
          have nDts : ∀ (i : Nat) (t' : Addr), ts[i]? = some t' → t' ≠ D := fun i t' e z => by
            have hi : i < (gapL o.st j).length := by
              rw [← hG.1]
              exact (List.getElem?_eq_some_iff.mp e).1
            have := hG.2 i t' _ e (List.getElem?_eq_getElem hi)
            rw [z, hD] at this
            cases this
          have G1 : GapAt (upd H' t (.tup (gapT o.st o.ho ((j : Int) + 1)))) (ts ++ [t]) (gapL o.st j ++ [(j : Int) + 1]) o.st o.ho := (hG.same (same_upd nt)).snoc upd_same
          show GapAt (upd (upd H' t (.tup (gapT o.st o.ho ((j : Int) + 1)))) D (.lst (ts.map V.ref ++ [V.ref t]))) (ts ++ [t]) (gapL o.st j ++ [(j : Int) + 1]) o.st o.ho
          refine ⟨G1.1, fun i t' n e1 e2 => ?_⟩
          have t'D : t' ≠ D := by
            by_cases ci : i < ts.length
            · rw [List.getElem?_append_left ci] at e1
              exact nDts i t' e1
            · rw [List.getElem?_append_right (by omega)] at e1
              have := List.mem_of_getElem? e1
              rw [List.mem_singleton.mp this]
              exact tD.symm
          rw [upd_ne t'D]
          exact G1.2 i t' n e1 e2
    · rintro H' ⟨s2, ts, hD, hG⟩
      exact k g D ts H' hg (s1.trans s2) (s1.free nD) hD hG
end
end Nu
namespace Nu
open PySem PySem.Spec PyProof.Rows L2
theorem takesL {X : Cx} {W : WX} (t : Takes X W) : Takes X (fun c d σ H => σ.length = X.N.length → W c d σ H) := fun u s' ⟨a, B, sI, pins, σ, H, cls, d, e, I, nb, up, sky, na, os, ag, w⟩ =>
  t u s' ⟨a, B, sI, pins, σ, H, cls, d, e, I, nb, up, sky, na, os, ag, w I.len⟩
/-- the three kinds -/
def three (a : Ad) : Nat → Addr
  | 0 => a.NoOffice
  | 1 => a.NoDesk
  | _ => a.NoNumber
def word3 : Nat → Str
  | 0 => "NoOffice"
  | 1 => "NoDesk"
  | _ => "NoNumber"
structure Kn3 (K : PySem.W.Frag) (a : Ad) (D : Addr) (i : Nat) : Prop where
  lt : i < 3
  k : ∀ j, j < 3 → PySem.W.kitOne K (.ref D) (.ref (three a j)) = some (decide (i = j))
  o : PySem.W.kitAny K (.ref D) [.ref a.NoBox, .ref a.NoCount, .ref a.NoRoom, .ref a.NotThere, .ref a.NoWord, .ref a.NoWorld, .ref a.Short, .ref a.Stopped, .ref a.Twice] = some false
  v : PySem.W.kitOne K (.ref D) (.type "ValueError") = some true
  g : PySem.W.exmOne K (.ref D) (.ref a.GapError) = some true
  c : ExcC K D
def kl (i : Nat) : List V := (List.range 3).map fun j => V.bl (decide (i = j))
theorem kl_count : ∀ i, i < 3 → ((kl i).countP fun z => eqV z (V.bl true)) = 1 := by decide
theorem kl_at {i : Nat} (h : i < 3) : (kl i)[i]? = some (V.bl true) := by
  unfold kl
  rw [List.getElem?_map, List.getElem?_range h]
  show some (V.bl (decide (i = i))) = _
  rw [decide_eq_true rfl]
theorem kl_before {i m : Nat} {z : V} (h : i < 3) (hm : m < i) (e : (kl i)[m]? = some z) : eqV z (V.bl true) = false := by
  unfold kl at e
  rw [List.getElem?_map, List.getElem?_range (by omega)] at e
  cases e
  show (decide (i = m) == true) = false
  rw [decide_eq_false (by omega)]
  rfl
theorem kl_flat (i : Nat) : (kl i).all flatV = true := by
  unfold kl
  rw [List.all_map]
  exact List.all_eq_true.mpr fun _ _ => rfl
theorem word3_at {i : Nat} (h : i < 3) : [V.str "NoOffice", V.str "NoDesk", V.str "NoNumber"][i]? = some (V.str (word3 i)) := by
  match i, h with
  | 0, _ => rfl
  | 1, _ => rfl
  | 2, _ => rfl
def TTkind (ad : Ad) : (XK → Hp → VK → Prop) → Hp → VK → Prop := fun tl H Q =>
  tl (fun cls d H' => ∃ i, i < 3 ∧ cls = .ref (three ad i) ∧ d = none ∧ ∀ H'', Same H' H'' → Q (.str (word3 i)) H'') H (fun _ H' => Q (.str "") H')
theorem kind_gives {K : PySem.W.Frag} {mg : Str → Option Value} {ad : Ad} {fd : Fd} (T : Txt K mg ad fd) (K3 : ∀ i, i < 3 → Kn3 K ad (three ad i) i) {X : Cx} (hK : X.K = K) (hmg : X.mg = mg) {q : Str} {cdg : Value} :
    LamX.GivesTo X ["_law_work", "e", "_law_kinds", "_law_other"] "_law_kind" (defScope s_l_kind) ad.l_kind cdg (defBody s_l_kind) "_law_work" q (TTkind ad) := by
  subst hK hmg
  intro f c' s H Q tl act hc h
  refine ⟨_, (pss_cons (ps_try_as (X := (cxOf CX0 X.prog X.w X.K X.mg X.base ["_law_work", "e", "_law_kinds", "_law_other"] "_law_kind" (defScope s_l_kind) ad.l_kind cdg X.A X.stack s H E0).nox) (i := 1) (tb := fun W D σ H => ∃ Ech : XK, (∀ cls d σ' H', Ech cls d H' → σ'.length = 4 → W cls d σ' H') ∧ σ[0]? = some (some (.ref f)) ∧ H c' = some (LamX.CodeO c' q) ∧ tl Ech H (fun _ H' => D.nx σ H')) rfl rfl sc_l_kind.nd rfl rfl ⟨(show Gl _ "GapError" from rfl), by decide, .inl T.x_GapError.g⟩ takes0 (fun W pn xe tk _ => ?_)
      (fun a oe cls d pn hz hf => (pss_cons (ps_set (i := 2) sc_l_kind.nd rfl (Or.inl rfl) (pe_lst (pa_cons (pe_callB (call_isG hz hf) (by rfl) T.n_isinstance (by decide +kernel) (pa_cons (pv 1) (pa_cons (pe_glob (v := .ref ad.NoOffice) (by rfl) T.x_NoOffice.g rfl) pa_nil))) (pa_cons (pe_callB (call_isG hz hf) (by rfl) T.n_isinstance (by decide +kernel) (pa_cons (pv 1) (pa_cons (pe_glob (v := .ref ad.NoDesk) (by rfl) T.x_NoDesk.g rfl) pa_nil))) (pa_cons (pe_callB (call_isG hz hf) (by rfl) T.n_isinstance (by decide +kernel) (pa_cons (pv 1) (pa_cons (pe_glob (v := .ref ad.NoNumber) (by rfl) T.x_NoNumber.g rfl) pa_nil))) pa_nil)))))
    (pss_cons (ps_set (i := 3) sc_l_kind.nd rfl (Or.inl rfl) (pe_callB (call_isGT hz hf) (by rfl) T.n_isinstance (by decide +kernel) (pa_cons (pv 1) (pa_cons (pe_tup (pa_cons (pe_glob (v := .ref ad.NoBox) (by rfl) T.x_NoBox.g rfl) (pa_cons (pe_glob (v := .ref ad.NoCount) (by rfl) T.x_NoCount.g rfl) (pa_cons (pe_glob (v := .ref ad.NoRoom) (by rfl) T.x_NoRoom.g rfl) (pa_cons (pe_glob (v := .ref ad.NotThere) (by rfl) T.x_NotThere.g rfl) (pa_cons (pe_glob (v := .ref ad.NoWord) (by rfl) T.x_NoWord.g rfl) (pa_cons (pe_glob (v := .ref ad.NoWorld) (by rfl) T.x_NoWorld.g rfl) (pa_cons (pe_glob (v := .ref ad.Short) (by rfl) T.x_Short.g rfl) (pa_cons (pe_glob (v := .ref ad.Stopped) (by rfl) T.x_Stopped.g rfl) (pa_cons (pe_glob (v := .ref ad.Twice) (by rfl) T.x_Twice.g rfl) pa_nil)))))))))) pa_nil))))
    (pss_cons (ps_if (PW.pt (pw_or (pt_val (pv 3)) (pw_or (pt_cmpR op_ne (pe_bmK (K := X.K) rfl PySem.F.plainAttrs_list PySem.F.slot_list_count PySem.F.type_list_count mt_countF (pv 2) (pa_cons pe_bl pa_nil)) pe_int (nomark _)) (pw_or1 (pt_not (pt_val (pe_callB (call_isG hz hf) (by rfl) T.n_isinstance (by decide +kernel) (pa_cons (pv 1) (pa_cons (pe_bltn (v := .ty "ValueError") (by rfl) T.n_ValueError (by decide +kernel) rfl) pa_nil))))))))) (pss_one (ps_ret pe_str)) pss_nil)
    (pss_one (ps_ret (pe_ix (ixL_K (K := X.K) rfl) (pe_lst (pa_cons pe_str (pa_cons pe_str (pa_cons pe_str pa_nil)))) (pe_bmK (K := X.K) rfl PySem.F.plainAttrs_list PySem.F.slot_list_index PySem.F.type_list_index (mt_indexK (K := X.K) rfl) (pv 2) (pa_cons pe_bl pa_nil)) (fun _ _ => rfl)))))))))
    (pss_one (ps_ret pe_str))), ?_⟩
  · refine ⟨fun pins s' σ H' D I h' => ?_⟩
    obtain ⟨Ech, hW, h1, h2, h3⟩ := h'
    exact (pss_one (ps_expr (act (fun c d σ H => σ.length = 4 → W c d σ H) pn xe Ech _ _ (takesL tk) hW))).run pins s' σ H' D I ⟨h1, h2, h3⟩
  · refine ⟨fun cls d H' => ∃ i, i < 3 ∧ cls = .ref (three ad i) ∧ d = none ∧ ∀ H'', Same H' H'' → Q (.str (word3 i)) H'', ?_, rfl, hc, h⟩
    rintro cls d σ' H1 ⟨i, hi, rfl, rfl, kq⟩ hlen
    obtain ⟨y0, y1, y2, y3, rfl⟩ : ∃ y0 y1 y2 y3, σ' = [y0, y1, y2, y3] := by
      match σ', hlen with
      | [y0, y1, y2, y3], _ => exact ⟨y0, y1, y2, y3, rfl⟩
    have kn := K3 i hi
    generalize three ad i = c at kn ⊢
    refine ⟨true, kn.g, fun _ ex nex => ?_, fun q => by cases q⟩
    refine ⟨_, rfl, c, rfl, rfl, kn.c, _, _, _, rfl, (fun u r => r), kn.k 0 (by decide), ?_⟩
    refine ⟨_, rfl, c, rfl, rfl, kn.c, _, _, _, rfl, (fun u r => r), kn.k 1 (by decide), ?_⟩
    refine ⟨_, rfl, c, rfl, rfl, kn.c, _, _, _, rfl, (fun u r => r), kn.k 2 (by decide), ?_⟩
    refine ⟨(by show 3 ≤ sizeLine; decide), fun lk nlk => ?_⟩
    have hk : (upd H1 lk (.lst (kl i))) lk = some (.lst (kl i)) := upd_same
    have s1 : Same H1 (upd H1 lk (.lst (kl i))) := same_upd nlk
    refine ⟨_, rfl, (by show 9 ≤ sizeLine; decide), fun tp ntp => ⟨c, tp, _, _, _, rfl, rfl, kn.c, rfl, upd_same, .cons (.own _) (.cons (.own _) (.cons (.own _) (.cons (.own _) (.cons (.own _) (.cons (.own _) (.cons (.own _) (.cons (.own _) (.cons (.own _) .nil)))))))), kn.o, ?_⟩⟩
    refine ⟨_, rfl, _, rfl, iteF ?_⟩
    have hk2 := same_upd (o := .tup [V.ref ad.NoBox, V.ref ad.NoCount, V.ref ad.NoRoom, V.ref ad.NotThere, V.ref ad.NoWord, V.ref ad.NoWorld, V.ref ad.Short, V.ref ad.Stopped, V.ref ad.Twice]) ntp _ _ hk
    have s2 := s1.trans (same_upd (o := .tup [V.ref ad.NoBox, V.ref ad.NoCount, V.ref ad.NoRoom, V.ref ad.NotThere, V.ref ad.NoWord, V.ref ad.NoWorld, V.ref ad.Short, V.ref ad.Stopped, V.ref ad.Twice]) ntp)
    refine ⟨_, rfl, .inl ⟨rfl, kl i, SqL.of hk2⟩, lk, kl i, _, rfl, rfl, SqL.of hk2, rfl, kl_flat i, rfl, _, rfl, ?_⟩
    rw [show (!decide (V.int (((kl i).countP fun z => eqV z (V.bl true) : Nat) : Int) = V.int 1)) = false from by rw [kl_count i kn.lt]; rfl]
    refine iteF ?_
    refine ⟨_, rfl, c, rfl, rfl, kn.c, _, _, _, rfl, (fun u r => r), kn.v, _, rfl, iteF ?_⟩
    refine ⟨(by show 3 ≤ sizeLine; decide), fun lw nlw => ?_⟩
    have hk3 := same_upd (o := .lst [V.str "NoOffice", V.str "NoDesk", V.str "NoNumber"]) nlw _ _ hk2
    refine ⟨_, rfl, .inl ⟨rfl, kl i, SqL.of hk3⟩, lk, kl i, .bl true, i, .bl true, rfl, rfl, SqL.of hk3, rfl, kl_flat i, kl_at kn.lt, rfl, (fun m z' hm e => kl_before kn.lt hm e), lw, _, _, V.str (word3 i), rfl, rfl, SqL.of upd_same, atI_nat (word3_at kn.lt), ?_⟩
    exact kq _ (s2.trans (same_upd nlw))
end Nu
namespace Nu
open PySem PySem.Spec PyProof.Rows L2
/-! ### the list of lambdas -/
def lamIn : Stmt → Option Cl.LamD
  | .Assign _ (.List [.Lambda p b s _] _) _ => some ⟨p, b, s⟩
  | .Expr (.Call _ [.Lambda p b s _] _ _) _ => some ⟨p, b, s⟩
  | _ => none
def Dw (i : Nat) : Cl.LamD := (((defBody s_l_works)[i]?).bind lamIn).getD ⟨defArgs s_l_works, .Constant .none 0 ⟨0, 0, 0, 0⟩, defScope s_l_works⟩
def wQ : Str := (envOfC "_law_works" (defScope s_l_works) 0 0 .none).qual ++ "<lambda>"
abbrev NW : List Str := ["_law_office", "_law_desk", "_law_many", "_law_works_here"]
theorem dw_scope : ∀ i, i < 7 → LamX.lamSB (defScope s_l_works) (Dw i).scope = true := by decide +kernel
/-- what each does -/
def tw (ad : Ad) : Nat → XK → TE
  | 0 => fun E => tMeth ad.C "lend" (spLend ad) [] E (tVar 0) (tCons (tVar 1) (tCons (tVar 2) tNil))
  | 1 => fun E => tMeth ad.C "report" (spReport ad) [] E (tVar 0) (tCons (tVar 1) (tCons (tLst (tCons (tC (.str "paper")) (tCons (tC (.str "odd")) tNil))) tNil))
  | 2 => fun E => tMeth ad.C "back" (spBack ad) [] E (tVar 0) (tCons (tVar 1) tNil)
  | 3 => fun E => tMeth ad.C "stop" (spStop ad) [] E (tVar 0) (tCons (tVar 1) tNil)
  | 4 => fun E => tMeth ad.C "settle" (spSettle ad) [] E (tVar 0) (tCons (tVar 1) (tCons (tVar 2) tNil))
  | 5 => fun E => tMeth ad.C "open_numbers" (spOpen ad) [] E (tVar 0) (tCons (tVar 1) tNil)
  | _ => fun E => tMeth ad.C "rest" (spRest ad) [] E (tVar 0) (tCons (tVar 1) tNil)
theorem passF {P : Program} {w : World} {K : PySem.W.Frag} {mg : Str → Option Value} {base : Heap} {N : List Str} {q : Str} {sc : Scope} {cells : List (Str × Addr)} {A : Around} {outer : List Env} {s : Shared} {H : Hp} {E : XK} {f c' : Addr} : Passes (L2.CX P w) (Cl.lcx P w K mg base N q sc cells A outer s H E f c') E :=
  passes_call (W := fun cls d _ H' => E cls d H') (takes_of rfl rfl rfl rfl) (fun _ _ _ _ h => h)
section
variable {P : Program} {w : World} {K : PySem.W.Frag} {mg : Str → Option Value} {base : Heap} {ad : Ad} {fd : Fd}
theorem dw_ok (T : Txt K mg ad fd) : ∀ i, i < 7 → LamX.LamS (defScope s_l_works) (Dw i).scope ∧ (∀ (cl : List (Str × Addr)) (pm cv ctv : Value), bindArgs (PySem.W.kla_fn "<lambda>" wQ (Dw i).params (Dw i).body (Dw i).scope cl pm cv ctv) ⟨[], []⟩ = pure []) ∧
      ∀ (cells : List (Str × Addr)) (A : Around) (outer : List Env) (s : Shared) (H : Hp) (E : XK) (f c' : Addr), Room 4 (A.deeper (Cl.lenv wQ (Dw i).scope cells s.heap.objs.size f c')) → PE (Cl.lcx P w K mg base NW wQ (Dw i).scope cells A outer s H E f c') (Dw i).body (tw ad i E) := by
  have G_Office_lend := ok_Office_lend (P := P) (w := w) (base := base) T
  have G_Office_report := ok_Office_report (P := P) (w := w) (base := base) T
  have G_Office_back := ok_Office_back (P := P) (w := w) (base := base) T
  have G_Office_stop := ok_Office_stop (P := P) (w := w) (base := base) T
  have G_Office_settle := ok_Office_settle (P := P) (w := w) (base := base) T
  have G_Office_open_numbers := ok_Office_open_numbers (P := P) (w := w) (base := base) T
  have G_Office_rest := ok_Office_rest (P := P) (w := w) (base := base) T
  intro i hi
  refine ⟨LamX.lamS_by (dw_scope i hi), ?_⟩
  match i, hi with
  | 0, _ => exact ⟨fun _ _ _ _ => rfl, fun cells A outer s H E f c' hr => pe_meth (pv 0) T.cl T.m_Office_lend G_Office_lend (hr.mono (by decide)) T.b_Office_lend .nil passF (pa_cons (pv 1) (pa_cons (pv 2) pa_nil))⟩
  | 1, _ => exact ⟨fun _ _ _ _ => rfl, fun cells A outer s H E f c' hr => pe_meth (pv 0) T.cl T.m_Office_report G_Office_report (hr.mono (by decide)) T.b_Office_report .nil passF (pa_cons (pv 1) (pa_cons (pe_lst (pa_cons pe_str (pa_cons pe_str pa_nil))) pa_nil))⟩
  | 2, _ => exact ⟨fun _ _ _ _ => rfl, fun cells A outer s H E f c' hr => pe_meth (pv 0) T.cl T.m_Office_back G_Office_back (hr.mono (by decide)) T.b_Office_back .nil passF (pa_cons (pv 1) pa_nil)⟩
  | 3, _ => exact ⟨fun _ _ _ _ => rfl, fun cells A outer s H E f c' hr => pe_meth (pv 0) T.cl T.m_Office_stop G_Office_stop (hr.mono (by decide)) T.b_Office_stop .nil passF (pa_cons (pv 1) pa_nil)⟩
  | 4, _ => exact ⟨fun _ _ _ _ => rfl, fun cells A outer s H E f c' hr => pe_meth (pv 0) T.cl T.m_Office_settle G_Office_settle (hr.mono (by decide)) T.b_Office_settle .nil passF (pa_cons (pv 1) (pa_cons (pv 2) pa_nil))⟩
  | 5, _ => exact ⟨fun _ _ _ _ => rfl, fun cells A outer s H E f c' hr => pe_meth (pv 0) T.cl T.m_Office_open_numbers G_Office_open_numbers (hr.mono (by decide)) T.b_Office_open_numbers .nil passF (pa_cons (pv 1) pa_nil)⟩
  | 6, _ => exact ⟨fun _ _ _ _ => rfl, fun cells A outer s H E f c' hr => pe_meth (pv 0) T.cl T.m_Office_rest G_Office_rest (hr.mono (by decide)) T.b_Office_rest .nil passF (pa_cons (pv 1) pa_nil)⟩
/-- no such desk: each is refused -/
theorem tw_noDesk {F : Fp} {o : Of} {d : Int} {r : Option V} {E : XK} {H : Hp} {Q : VK} (O : Off ad H F o) (W : Wf o) (hd : IntOk d) (hn : ¬ (0 ≤ d ∧ d < (o.sg.length : Int))) (k : ∀ H', Same H H' → E (.ref ad.NoDesk) none H') : ∀ i, i < 7 → tw ad i E [some (.ref F.p), some (.int d), some (.int 0), r] H Q := by
  have wsl := W.sl
  intro i hi
  match i, hi with
  | 0, _ => exact ⟨_, rfl, F.p, F.dx, _, rfl, O.ob, ofl_m F, _, rfl, _, rfl, F, o, d, 0, rfl, O, W, hd, by decide, fun _ => k H (Same.refl _), fun i z e1 e2 => absurd ⟨by omega, by have := (List.getElem?_eq_some_iff.mp e2).1; omega⟩ hn⟩
  | 1, _ =>
    refine ⟨_, rfl, F.p, F.dx, _, rfl, O.ob, ofl_m F, _, rfl, (by show 2 ≤ sizeLine; decide), fun aw nw => ?_⟩
    have s1 := same_upd (o := .lst [V.str "paper", V.str "odd"]) nw
    exact ⟨F, o, d, aw, ["paper", "odd"], rfl, O.stay fun c _ u e => s1 c u e, W, hd, upd_same, O.new nw, fun _ => k _ s1, fun i z e1 e2 => absurd ⟨by omega, by have := (List.getElem?_eq_some_iff.mp e2).1; omega⟩ hn⟩
  | 2, _ => exact ⟨_, rfl, F.p, F.dx, _, rfl, O.ob, ofl_m F, _, rfl, F, o, d, rfl, O, W, hd, fun _ => k H (Same.refl _), fun i z e1 e2 => absurd ⟨by omega, by have := (List.getElem?_eq_some_iff.mp e2).1; omega⟩ hn⟩
  | 3, _ => exact ⟨_, rfl, F.p, F.dx, _, rfl, O.ob, ofl_m F, _, rfl, F, o, d, rfl, O, W, hd, fun _ => k H (Same.refl _), fun i z e1 e2 => absurd ⟨by omega, by have := (List.getElem?_eq_some_iff.mp e2).1; omega⟩ hn⟩
  | 4, _ => exact ⟨_, rfl, F.p, F.dx, _, rfl, O.ob, ofl_m F, _, rfl, _, rfl, F, o, d, 0, rfl, O, W, hd, by decide, fun _ => k H (Same.refl _), fun i z e1 e2 => absurd ⟨by omega, by have := (List.getElem?_eq_some_iff.mp e2).1; omega⟩ hn⟩
  | 5, _ => exact ⟨_, rfl, F.p, F.dx, _, rfl, O.ob, ofl_m F, _, rfl, F, o, d, rfl, O, W, hd, fun _ => k H (Same.refl _), fun i z e1 e2 => absurd ⟨by omega, by have := (List.getElem?_eq_some_iff.mp e2).1; omega⟩ hn⟩
  | 6, _ => exact ⟨_, rfl, F.p, F.dx, _, rfl, O.ob, ofl_m F, _, rfl, F, o, d, rfl, O, W, hd, fun _ => k H (Same.refl _), fun i z e1 e2 => absurd ⟨by omega, by have := (List.getElem?_eq_some_iff.mp e2).1; omega⟩ hn⟩
end
end Nu
namespace Nu
open PySem PySem.Spec PyProof.Rows L2
theorem tabs_draw {Tl : List (Addr × Str)} {H H' : Hp} {s : Addr} (t : LamX.Tabs Tl H) (k : Keep [s] H H') (hs : ∃ xs, H s = some (.lst xs)) : LamX.Tabs Tl H' := fun p hp => by
  obtain ⟨xs, hs⟩ := hs
  obtain ⟨ps, h1, h2, h3⟩ := t p hp
  have ne : ∀ b u, H b = some u → (∀ ys, u ≠ .lst ys) → H' b = some u := fun b u e' n => k b u e' (fun z => by
    rw [List.mem_singleton.mp z, hs] at e'
    exact n _ (Option.some.inj e').symm)
  refine ⟨ps, ne _ _ h1 (fun ys z => by cases z), h2, fun pos cv hc => ?_⟩
  obtain ⟨c, e1, e2⟩ := h3 pos cv hc
  exact ⟨c, e1, ne _ _ e2 (fun ys z => by unfold LamX.CodeO at z; cases z)⟩
/-- the closures at fs, told by the list at r -/
structure WI (Tl : List (Addr × Str)) (cells : List (Str × Addr)) (H0 H : Hp) (r : Addr) (fs : List Addr) : Prop where
  ex : LamX.ExtN H0 H
  tb : LamX.Tabs Tl H
  nr : ∀ u, H0 r = some u → ∃ ps, u = .tbl ps
  hr : H r = some (.lst (fs.map V.ref))
  at_ : ∀ (i : Nat) (f : Addr), fs[i]? = some f → ∃ c', H f = some (Cl.LamO f wQ (Dw i) cells c') ∧ H c' = some (LamX.CodeO c' wQ)
theorem lamO_nt {f c' : Addr} {q : Str} {D : Cl.LamD} {cells : List (Str × Addr)} (ps : Array Value) : Cl.LamO f q D cells c' ≠ .tbl ps := fun z => by
  unfold Cl.LamO at z
  cases z
theorem lamO_nl {f c' : Addr} {q : Str} {D : Cl.LamD} {cells : List (Str × Addr)} (ps : List V) : Cl.LamO f q D cells c' ≠ .lst ps := fun z => by
  unfold Cl.LamO at z
  cases z
theorem codeO_nl {c : Addr} {q : Str} (ps : List V) : LamX.CodeO c q ≠ .lst ps := fun z => by
  unfold LamX.CodeO at z
  cases z
theorem WI.step {Tl : List (Addr × Str)} {cells : List (Str × Addr)} {H0 H H1 : Hp} {r f c' : Addr} {fs : List Addr} (W : WI Tl cells H0 H r fs) (e1 : LamX.ExtN H H1) (t1 : LamX.Tabs Tl H1) (nf : H1 f = none) (hc : H1 c' = some (LamX.CodeO c' wQ)) :
    WI Tl cells H0 (upd (upd H1 f (Cl.LamO f wQ (Dw fs.length) cells c')) r (.lst (fs.map V.ref ++ [V.ref f]))) r (fs ++ [f]) := by
  have hr1 : H1 r = some (.lst (fs.map V.ref)) := e1 _ _ W.hr fun ps z => by cases z
  have rf : r ≠ f := fun z => by rw [← z, hr1] at nf; cases nf
  have keep : ∀ b u, H1 b = some u → b ≠ r → (upd (upd H1 f (Cl.LamO f wQ (Dw fs.length) cells c')) r (.lst (fs.map V.ref ++ [V.ref f]))) b = some u := fun b u e n => by
    rw [upd_ne n, upd_ne (fun z => by rw [z, nf] at e; cases e)]
    exact e
  have nrx : ∀ b u, H1 b = some u → (∀ xs, u ≠ .lst xs) → b ≠ r := fun b u e n z => by
    rw [z, hr1] at e
    exact n _ (Option.some.inj e).symm
  refine ⟨fun b u e n => keep b u (e1 _ _ (W.ex b u e n) n) fun z => ?_, ?_, W.nr, ?_, fun i g e => ?_⟩
  · rw [z] at e
    obtain ⟨ps, q⟩ := W.nr u e
    exact n ps q
  · exact tabs_draw t1 (fun b u e n => keep b u e fun z => n (List.mem_singleton.mpr z)) ⟨_, hr1⟩
  · rw [upd_same, List.map_append]
    rfl
  · by_cases c : i < fs.length
    · rw [List.getElem?_append_left c] at e
      obtain ⟨c2, h1, h2⟩ := W.at_ i g e
      have g1 := e1 _ _ h1 lamO_nt
      have g2 := e1 _ _ h2 LamX.codeO_ne
      exact ⟨c2, keep _ _ g1 (nrx _ _ g1 lamO_nl), keep _ _ g2 (nrx _ _ g2 codeO_nl)⟩
    · rw [List.getElem?_append_right (by omega)] at e
      have hi := (List.getElem?_eq_some_iff.mp e).1
      simp only [List.length_cons, List.length_nil] at hi
      have hi : i = fs.length := by omega
      subst hi
      rw [Nat.sub_self] at e
      cases e
      exact ⟨c', by rw [upd_ne (Ne.symm rf)]; exact upd_same, keep _ _ hc (nrx _ _ hc codeO_nl)⟩
theorem app_go {K : PySem.W.Frag} {Tl : List (Addr × Str)} {cells : List (Str × Addr)} {H0 G : Hp} {r : Addr} {fs : List Addr} {k : Nat} {σ : L2.St} {Q : VK} (W : WI Tl cells H0 G r fs) (hl : fs.length = k) (h3 : σ[3]? = some (some (.ref r))) (h : ∀ fs' G', WI Tl cells H0 G' r fs' → fs'.length = k + 1 → Q .non G') (hk : k ≤ 7 := by decide) :
    tBM K "list" rAppend (tVar 3) (tCons (Cl.tLamV Tl wQ cells (Dw k)) tNil) σ G Q := by
  subst hl
  refine ⟨_, h3, .inl ⟨rfl, _, SqL.of W.hr⟩, W.tb, fun f c' H1 e1 t1 nf hc => ?_⟩
  have hr1 : H1 r = some (.lst (fs.map V.ref)) := e1 _ _ W.hr fun ps z => by cases z
  have rf : r ≠ f := fun z => by rw [← z, hr1] at nf; cases nf
  refine ⟨r, _, _, rfl, rfl, by rw [upd_ne rf]; exact hr1, small1000 (by rw [List.length_map]; omega), ?_⟩
  exact h (fs ++ [f]) _ (W.step e1 t1 nf hc) (by rw [List.length_append]; rfl)
section
variable {P : Program} {w : World} {K : PySem.W.Frag} {mg : Str → Option Value} {base : Heap} {ad : Ad} {fd : Fd}
def spWorks (Tl : List (Addr × Str)) : Sp := fun vs H Q _ => ∃ (x y z : V), vs = [x, y, z] ∧ LamX.Tabs Tl H ∧ ∀ (r : Addr) (fs : List Addr) (H' : Hp) (cells : List (Str × Addr)) (cs : List Addr), WI Tl cells H H' r fs → fs.length = 7 → Cl.Reg (defScope s_l_works) NW cells cs [some x, some y, some z, some (.ref r)] H' → Q (.ref r) H'
theorem capt_names : ∀ p ∈ (defScope s_l_works).names, (p.2 = .cell ∨ p.2 = .free) → p.1 ∈ (["_law_office", "_law_desk", "_law_many"] : List Str) := by decide +kernel
theorem capt_back : ∀ y ∈ (["_law_office", "_law_desk", "_law_many"] : List Str), Cl.capt (defScope s_l_works) y := by decide +kernel
theorem capt_iff (y : Str) : Cl.capt (defScope s_l_works) y ↔ y ∈ (["_law_office", "_law_desk", "_law_many"] : List Str) :=
  ⟨fun h => h.elim (fun e => capt_names _ (PySem.mem_of_lookup e) (.inl rfl)) fun e => capt_names _ (PySem.mem_of_lookup e) (.inr rfl), capt_back y⟩
theorem ok_l_works (T : Txt K mg ad fd) {Tl : List (Addr × Str)} {c8 P8 : Addr} (hc8 : fd.l_works.code = .ref c8) (TB : LamX.TabB base mg c8 P8) (hm : (P8, wQ) ∈ Tl) (hu : ∀ p ∈ Tl, p.1 = P8 → p.2 = wQ) : FnOk P w K mg base CX0 5 ad.l_works fd.l_works ["_law_office", "_law_desk", "_law_many"] (spWorks Tl) := by
  obtain ⟨oc, od, kV, doc, pm, an, cdv, ct, osl, e0, lk, hcd⟩ := T.F_l_works.ex
  rw [e0] at hc8 lk ⊢
  have hc8 : cdv = .ref c8 := hc8
  subst hc8
  refine Cl.fn_cells lk hcd sc_l_works (fun vs H Q E h => ?_) (fun A outer s H vs Q E hr h => ?_)
  · obtain ⟨x, y, z, rfl, _⟩ := h
    rfl
  · obtain ⟨x, y, z, rfl, t0, k⟩ := h
    refine ⟨_, (Cl.pse_cons (ps_set (i := 3) sc_l_works.nd rfl (Or.inl rfl) (pe_lst (pa_cons (Cl.pe_lam (T := Tl) (c := c8) (P := P8) (D := Dw 0) TB rfl hm hu (LamX.lamS_by (dw_scope 0 (by decide))) rfl) pa_nil)))
    (Cl.pse_cons (ps_expr (pe_bm PySem.F.plainAttrs_list PySem.F.slot_list_append PySem.F.type_list_append mt_append (pv 3) (pa_cons (Cl.pe_lam (T := Tl) (c := c8) (P := P8) (D := Dw 1) TB rfl hm hu (LamX.lamS_by (dw_scope 1 (by decide))) rfl) pa_nil)))
    (Cl.pse_cons (ps_expr (pe_bm PySem.F.plainAttrs_list PySem.F.slot_list_append PySem.F.type_list_append mt_append (pv 3) (pa_cons (Cl.pe_lam (T := Tl) (c := c8) (P := P8) (D := Dw 2) TB rfl hm hu (LamX.lamS_by (dw_scope 2 (by decide))) rfl) pa_nil)))
    (Cl.pse_cons (ps_expr (pe_bm PySem.F.plainAttrs_list PySem.F.slot_list_append PySem.F.type_list_append mt_append (pv 3) (pa_cons (Cl.pe_lam (T := Tl) (c := c8) (P := P8) (D := Dw 3) TB rfl hm hu (LamX.lamS_by (dw_scope 3 (by decide))) rfl) pa_nil)))
    (Cl.pse_cons (ps_expr (pe_bm PySem.F.plainAttrs_list PySem.F.slot_list_append PySem.F.type_list_append mt_append (pv 3) (pa_cons (Cl.pe_lam (T := Tl) (c := c8) (P := P8) (D := Dw 4) TB rfl hm hu (LamX.lamS_by (dw_scope 4 (by decide))) rfl) pa_nil)))
    (Cl.pse_cons (ps_expr (pe_bm PySem.F.plainAttrs_list PySem.F.slot_list_append PySem.F.type_list_append mt_append (pv 3) (pa_cons (Cl.pe_lam (T := Tl) (c := c8) (P := P8) (D := Dw 5) TB rfl hm hu (LamX.lamS_by (dw_scope 5 (by decide))) rfl) pa_nil)))
    (Cl.pse_cons (ps_expr (pe_bm PySem.F.plainAttrs_list PySem.F.slot_list_append PySem.F.type_list_append mt_append (pv 3) (pa_cons (Cl.pe_lam (T := Tl) (c := c8) (P := P8) (D := Dw 6) TB rfl hm hu (LamX.lamS_by (dw_scope 6 (by decide))) rfl) pa_nil)))
    (Cl.pse_ret (pv 3))))))))), ?_⟩
    refine ⟨t0, fun f0 c0 H1 e1 t1 nf0 hc0 => ⟨(by show 1 ≤ sizeLine; decide), fun r nr => ?_⟩⟩
    have W1 : WI Tl (envOfC "_law_works" (defScope s_l_works) s.heap.objs.size ad.l_works (.ref c8)).cells H (upd (upd H1 f0 (Cl.LamO f0 wQ (Dw 0) (envOfC "_law_works" (defScope s_l_works) s.heap.objs.size ad.l_works (.ref c8)).cells c0)) r (.lst [V.ref f0])) r [f0] := by
      have nr1 : H1 r = none := by
        cases q : H1 r with
        | none => rfl
        | some u =>
          rw [upd_ne (fun z => by rw [z, upd_same] at nr; cases nr), q] at nr
          cases nr
      have fr : f0 ≠ r := fun z => by rw [← z, upd_same] at nr; cases nr
      refine ⟨fun b u e n => ?_, ?_, fun u e => Classical.byContradiction fun n => ?_, upd_same, fun i g e => ?_⟩
      · have h1 := e1 b u e n
        rw [upd_ne (fun z => by rw [z, nr1] at h1; cases h1), upd_ne (fun z => by rw [z, nf0] at h1; cases h1)]
        exact h1
      · refine t1.ext fun b o h1 => ?_
        rw [upd_ne (fun z => by rw [z, nr1] at h1; cases h1), upd_ne (fun z => by rw [z, nf0] at h1; cases h1)]
        exact h1
      · have h1 := e1 r u e fun ps z => n ⟨ps, z⟩
        rw [nr1] at h1
        cases h1
      · match i, e with
        | 0, e =>
          cases e
          refine ⟨c0, by rw [upd_ne fr]; exact upd_same, ?_⟩
          rw [upd_ne (fun z => by rw [z, nr1] at hc0; cases hc0), upd_ne (fun z => by rw [z, nf0] at hc0; cases hc0)]
          exact hc0
        | i + 1, e => simp at e
    refine app_go (k := 1) W1 rfl rfl fun fs2 G2 W2 l2 => ?_
    refine app_go (k := 2) W2 l2 rfl fun fs3 G3 W3 l3 => ?_
    refine app_go (k := 3) W3 l3 rfl fun fs4 G4 W4 l4 => ?_
    refine app_go (k := 4) W4 l4 rfl fun fs5 G5 W5 l5 => ?_
    refine app_go (k := 5) W5 l5 rfl fun fs6 G6 W6 l6 => ?_
    refine app_go (k := 6) W6 l6 rfl fun fs7 G7 W7 l7 => ?_
    refine ⟨_, rfl, fun G8 TT => ?_⟩
    have W8 : WI Tl (envOfC "_law_works" (defScope s_l_works) s.heap.objs.size ad.l_works (.ref c8)).cells H G8 r fs7 :=
      ⟨fun b u e n => TT.same _ _ (W7.ex b u e n), W7.tb.ext TT.same, W7.nr, TT.same _ _ W7.hr, fun i f e => (W7.at_ i f e).imp fun c' h => ⟨TT.same _ _ h.1, TT.same _ _ h.2⟩⟩
    refine k r fs7 G8 _ _ W8 l7 (TT.reg rfl (fun y hy => ?_) ["_law_office", "_law_desk", "_law_many"] capt_iff)
    have hy := (capt_iff y).mp hy
    simp only [List.mem_cons, List.not_mem_nil, or_false] at hy
    rcases hy with rfl | rfl | rfl
    · exact ⟨0, _, rfl, rfl⟩
    · exact ⟨1, _, rfl, rfl⟩
    · exact ⟨2, _, rfl, rfl⟩
end
end Nu
namespace Nu
open PySem PySem.Spec PyProof.Rows L2
theorem Off.nt {a : Ad} {H : Hp} {F : Fp} {o : Of} (h : Off a H F o) : ∀ c ∈ F.foot, ∀ ps, H c ≠ some (.tbl ps) := by
  intro c hc ps z
  unfold Fp.foot at hc
  simp only [List.mem_cons] at hc
  rcases hc with rfl | rfl | rfl | rfl | rfl | hc
  · rw [h.ob] at z
    cases z
  · rw [h.st] at z
    cases z
  · obtain ⟨hk, e, _⟩ := h.ho
    rw [e] at z
    cases z
  · rw [h.sg] at z
    cases z
  · rw [h.le] at z
    cases z
  · obtain ⟨ix, hix, rfl⟩ := List.getElem_of_mem hc
    have hix2 : ix < o.le.length := by rw [← h.ll]; exact hix
    rw [h.each ix _ _ (List.getElem?_eq_getElem hix) (List.getElem?_eq_getElem hix2)] at z
    cases z
theorem Off.nx {a : Ad} {H : Hp} {F : Fp} {o : Of} (h : Off a H F o) : ∀ c ∈ F.foot, ∀ φ, H c ≠ some (.ext φ) := by
  intro c hc ps z
  unfold Fp.foot at hc
  simp only [List.mem_cons] at hc
  rcases hc with rfl | rfl | rfl | rfl | rfl | hc
  · rw [h.ob] at z
    cases z
  · rw [h.st] at z
    cases z
  · obtain ⟨hk, e, _⟩ := h.ho
    rw [e] at z
    cases z
  · rw [h.sg] at z
    cases z
  · rw [h.le] at z
    cases z
  · obtain ⟨ix, hix, rfl⟩ := List.getElem_of_mem hc
    have hix2 : ix < o.le.length := by rw [← h.ll]; exact hix
    rw [h.each ix _ _ (List.getElem?_eq_getElem hix) (List.getElem?_eq_getElem hix2)] at z
    cases z
theorem Off.ext {a : Ad} {H H' : Hp} {F : Fp} {o : Of} (h : Off a H F o) (k : LamX.ExtN H H') : Off a H' F o := h.stay fun c hc u e => k c u e fun ps z => h.nt c hc ps (by rw [e, z])
theorem Drw.ext {K : PySem.W.Frag} {H H' : Hp} {s sc : Addr} {ns : List Int} (d : Drw K H s sc ns) (k : LamX.ExtN H H') : Drw K H' s sc ns := by
  obtain ⟨i, m, r, e, h⟩ := d.at_
  refine ⟨d.sq.elim .inl fun q => .inr ⟨?_, q.2⟩, i, m, r, k _ _ e (fun ps z => by cases z), h⟩
  rcases q.1 with z | ⟨o, z⟩
  · exact .inl (k _ _ z fun ps z => by cases z)
  · exact .inr ⟨o, k _ _ z fun ps z => by cases z⟩
theorem same_mk {H : Hp} {x dx : Addr} {u v : HO} (nx : H x = none) (nd : H dx = none) : Same H (upd (upd H dx u) x v) := fun c o e => by
  rw [upd_ne (fun z => by rw [z, nx] at e; cases e), upd_ne (fun z => by rw [z, nd] at e; cases e)]
  exact e
theorem pick2 {v : Int} (h0 : 0 ≤ v) (h1 : v < 2) (a b : Int) : ∃ x : Int, atI [V.int a, V.int b] v = some (.int x) ∧ (x = a ∨ x = b) := by
  have : v = 0 ∨ v = 1 := by omega
  rcases this with rfl | rfl
  · exact ⟨a, rfl, .inl rfl⟩
  · exact ⟨b, rfl, .inr rfl⟩
theorem pick3 {v : Int} (h0 : 0 ≤ v) (h1 : v < 3) (a b c : Int) : ∃ x : Int, atI [V.int a, V.int b, V.int c] v = some (.int x) ∧ (x = a ∨ x = b ∨ x = c) := by
  have : v = 0 ∨ v = 1 ∨ v = 2 := by omega
  rcases this with rfl | rfl | rfl
  · exact ⟨a, rfl, .inl rfl⟩
  · exact ⟨b, rfl, .inr (.inl rfl)⟩
  · exact ⟨c, rfl, .inr (.inr rfl)⟩
theorem ne_same {x y : Str} (h : x = y) : (!decide (V.str x = V.str y)) = false := by rw [h, decide_eq_true rfl]; rfl
theorem put_same {H H' : Hp} {cs : List Addr} (s : Same (Cl.rmC H cs) H') : Same H (Cl.putC H H' cs) := fun b u e => by
  by_cases c : b ∈ cs
  · rw [Cl.putC_in c]
    exact e
  · rw [Cl.putC_out c]
    exact s b u (by rw [Cl.rmC_out c]; exact e)
theorem Off.rm {a : Ad} {H : Hp} {F : Fp} {o : Of} {cs : List Addr} (h : Off a H F o) (hc : Cl.AllC H cs) : Off a (Cl.rmC H cs) F o := h.stay fun c hf u e => by
  rw [Cl.rmC_out fun z => ?_]
  · exact e
  · obtain ⟨v, ev⟩ := hc c z
    unfold Cl.CellO at ev
    exact h.nx c hf _ ev
theorem reg_same {sc : Scope} {N : List Str} {cells : List (Str × Addr)} {cs : List Addr} {σ : L2.St} {H H' : Hp} (R : Cl.Reg sc N cells cs σ H) (s : Same H H') : Cl.Reg sc N cells cs σ H' :=
  ⟨R.len, R.has, fun i y v c e1 e2 e3 e4 => s _ _ (R.at_ i y v c e1 e2 e3 e4), fun c hc => (R.all c hc).imp fun v e => s _ _ e, R.inj⟩
theorem new_gaps (t d : Nat) : Greatest (Of.new t d).top (Of.new t d).st 0 := .inl ⟨rfl, fun n _ _ => by
  show usedB "free" = false
  decide +kernel⟩
theorem passLam {X : Cx} {A : Around} {outer : List Env} {s : Shared} {H : Hp} {E : XK} {scope : Scope} {f c' : Addr} : Passes (L2.CX (LamX.lamCx X A outer s H E scope f c').prog (LamX.lamCx X A outer s H E scope f c').w) (LamX.lamCx X A outer s H E scope f c') E :=
  passes_call (W := fun cls d _ H' => E cls d H') (takes_of rfl rfl rfl rfl) (fun _ _ _ _ h => h)
end Nu
namespace Nu
open PySem PySem.Spec PyProof.Rows L2
section
variable {P : Program} {w : World} {K : PySem.W.Frag} {mg : Str → Option Value} {base : Heap} {ad : Ad} {fd : Fd}
def lamQ : Str := (envOfC "law" (defScope s_law) 0 0 .none).qual ++ "<lambda>"
def spLaw (K : PySem.W.Frag) (Tl : List (Addr × Str)) : Sp := fun vs H Q _ => ∃ (a : Addr) (ns : List Int), vs = [.ref a] ∧ SqL K H a (ns.map V.int) ∧ ns.length ≤ 63 ∧ LamX.Tabs Tl H ∧ ∀ H', Q (.bl true) H'
theorem ok_law (T : Txt K mg ad fd) (K3 : ∀ i, i < 3 → Kn3 K ad (three ad i) i) {Tl : List (Addr × Str)} {c9 P9 c8 P8 : Addr} (hc9 : fd.law.code = .ref c9) (TB : LamX.TabB base mg c9 P9) (hm9 : (P9, lamQ) ∈ Tl) (hu9 : ∀ p ∈ Tl, p.1 = P9 → p.2 = lamQ)
    (hc8 : fd.l_works.code = .ref c8) (TB8 : LamX.TabB base mg c8 P8) (hm8 : (P8, wQ) ∈ Tl) (hu8 : ∀ p ∈ Tl, p.1 = P8 → p.2 = wQ) : FnOk P w K mg base CX0 7 ad.law fd.law ["_law_script"] (spLaw K Tl) := by
  have G_l_start := ok_l_start (P := P) (w := w) (base := base) T
  have G_l_drawn := ok_l_drawn (P := P) (w := w) (base := base) T
  have G_l_far := ok_l_far (P := P) (w := w) (base := base) T
  have G_l_works := ok_l_works (P := P) (w := w) (base := base) T hc8 TB8 hm8 hu8
  have G_Office_init := ok_Office_init (P := P) (w := w) (base := base) T
  have G_Office_open_numbers := ok_Office_open_numbers (P := P) (w := w) (base := base) T
  have G_Office_rest := ok_Office_rest (P := P) (w := w) (base := base) T
  have G_state_of := ok_state_of (P := P) (w := w) (base := base) T
  have G_gaps := ok_gaps (P := P) (w := w) (base := base) T
  have G_l_same := ok_l_same (P := P) (w := w) (base := base) T 3
  obtain ⟨ocN, odN, kVN, docN, pmN, anN, cdvN, ctN, oslN, eN, lkN, hcgN⟩ := T.F_l_kind.ex
  have bN := T.b_l_kind
  rw [eN] at bN lkN
  obtain ⟨oc, od, kV, doc, pm, an, cdv, ct, osl, e0, lk, hcd⟩ := T.F_law.ex
  rw [e0] at hc9 lk ⊢
  have hc9 : cdv = .ref c9 := hc9
  subst hc9
  refine fn_of lk hcd sc_law (fun vs H Q E h => ?_) (fun A0 outer s0 H vs Q E hr h => ?_)
  · obtain ⟨a, ns, rfl, _⟩ := h
    rfl
  · obtain ⟨a, ns, rfl, S0, hns, TB0, k⟩ := h
    have hu := hu_of hr
    suffices hs : ∃ t, PSs (cxOf CX0 P w K mg base ["_law_script", "_law_state", "_law_turn", "_law_top", "_law_desks", "_law_odd", "_law_other", "_law_office", "_law_bad", "_law_work", "_law_desk", "_law_far_here"] "law" (defScope s_law) ad.law (.ref c9) A0 outer s0 H E).nox (defBody s_law) t ∧ t { nx := fun _ H' => Q .non H', rt := Q } (L2.start ["_law_script", "_law_state", "_law_turn", "_law_top", "_law_desks", "_law_odd", "_law_other", "_law_office", "_law_bad", "_law_work", "_law_desk", "_law_far_here"] [.ref a]) H by
      obtain ⟨t, h1, h2⟩ := hs
      exact ⟨t, h1.nox, h2⟩
    refine ⟨_, (pss_cons (ps_set (i := 1) sc_law.nd rfl (Or.inl rfl) (pe_call G_l_start (hr.mono (by decide)) (by rfl) T.g_l_start T.F_l_start.kp T.b_l_start .nil pass0 (pa_cons (pv 0) pa_nil)))
    (pss_cons (ps_for PassesOwn.never rfl (pi_range1 (by rfl) T.n_range (pa_cons pe_int pa_nil)) (pg_name (i := 2) sc_law.nd rfl (Or.inl rfl))
      (pss_cons (ps_set (i := 3) sc_law.nd rfl (Or.inr rfl) (pe_op op_add pe_int (pe_call G_l_drawn (hr.mono (by decide)) (by rfl) T.g_l_drawn T.F_l_drawn.kp T.b_l_drawn .nil pass0 (pa_cons (pv 1) (pa_cons pe_int pa_nil)))))
    (pss_cons (ps_set (i := 4) sc_law.nd rfl (Or.inr rfl) (pe_op op_add pe_int (pe_call G_l_drawn (hr.mono (by decide)) (by rfl) T.g_l_drawn T.F_l_drawn.kp T.b_l_drawn .nil pass0 (pa_cons (pv 1) (pa_cons pe_int pa_nil)))))
    (pss_cons (ps_set (i := 5) sc_law.nd rfl (Or.inr rfl) (pe_ix ix_list (pe_lst (pa_cons pe_int (pa_cons (pe_call G_l_far (hr.mono (by decide)) (by rfl) T.g_l_far T.F_l_far.kp T.b_l_far .nil pass0 (pa_cons (pv 1) (pa_cons pe_int pa_nil))) pa_nil))) (pe_call G_l_drawn (hr.mono (by decide)) (by rfl) T.g_l_drawn T.F_l_drawn.kp T.b_l_drawn .nil pass0 (pa_cons (pv 1) (pa_cons pe_int pa_nil))) (fun _ _ => rfl)))
    (pss_cons (ps_set (i := 6) sc_law.nd rfl (Or.inr rfl) (pe_ix ix_list (pe_lst (pa_cons pe_int (pa_cons (pe_call G_l_far (hr.mono (by decide)) (by rfl) T.g_l_far T.F_l_far.kp T.b_l_far .nil pass0 (pa_cons (pv 1) (pa_cons pe_int pa_nil))) pa_nil))) (pe_call G_l_drawn (hr.mono (by decide)) (by rfl) T.g_l_drawn T.F_l_drawn.kp T.b_l_drawn .nil pass0 (pa_cons (pv 1) (pa_cons pe_int pa_nil))) (fun _ _ => rfl)))
    (pss_cons (ps_if (pt_cmpR op_ne (LamX.pe_lamcall (k := 2) (T := Tl) (by rfl) T.g_l_kind T.F_l_kind.kp lkN hcgN bN sc_l_kind rfl (Or.inl rfl) (kind_gives T K3 rfl rfl) TB rfl hm9 hu9 (hr.mono (by decide)) (LamX.lamS_by (by show LamX.lamSB (defScope s_law) _ = true; decide +kernel)) rfl (fun _ _ _ _ _ => rfl) (fun A outer s H E f c2 hr2 => pe_make (E := E) T.mkO G_Office_init hr2 (by rfl) T.g_Office T.b_Office_init .nil passLam (pa_cons (pv 5) (pa_cons (pv 4) pa_nil)))) pe_str (nomark _)) (pss_one (ps_ret pe_bl)) pss_nil)
    (pss_cons (ps_if (pt_cmpR op_ne (LamX.pe_lamcall (k := 2) (T := Tl) (by rfl) T.g_l_kind T.F_l_kind.kp lkN hcgN bN sc_l_kind rfl (Or.inl rfl) (kind_gives T K3 rfl rfl) TB rfl hm9 hu9 (hr.mono (by decide)) (LamX.lamS_by (by show LamX.lamSB (defScope s_law) _ = true; decide +kernel)) rfl (fun _ _ _ _ _ => rfl) (fun A outer s H E f c2 hr2 => pe_make (E := E) T.mkO G_Office_init hr2 (by rfl) T.g_Office T.b_Office_init .nil passLam (pa_cons (pv 3) (pa_cons (pv 6) pa_nil)))) pe_str (nomark _)) (pss_one (ps_ret pe_bl)) pss_nil)
    (pss_cons (ps_set (i := 7) sc_law.nd rfl (Or.inr rfl) (pe_make T.mkO G_Office_init (hr.mono (by decide)) (by rfl) T.g_Office T.b_Office_init .nil passL (pa_cons (pv 3) (pa_cons (pv 4) pa_nil))))
    (pss_cons (ps_set (i := 8) sc_law.nd rfl (Or.inl rfl) (pe_call G_l_far (hr.mono (by decide)) (by rfl) T.g_l_far T.F_l_far.kp T.b_l_far .nil pass0 (pa_cons (pv 1) (pa_cons (pe_op op_sub (pv 4) pe_int) pa_nil))))
    (pss_cons (ps_if (pt_cmpR (op_neD hr.units) (pe_lc (own := [("_law_work", 9)]) (g := gName 9) (by rfl) sc_law.nd (pi_list (pe_call G_l_works (hr.mono (by decide)) (by rfl) T.g_l_works T.F_l_works.kp T.b_l_works .nil pass0 (pa_cons (pv 7) (pa_cons (pv 8) (pa_cons pe_int pa_nil))))) (blkOk_by (own := [("_law_work", 9)]) (N := ["_law_script", "_law_state", "_law_turn", "_law_top", "_law_desks", "_law_odd", "_law_other", "_law_office", "_law_bad", "_law_work", "_law_desk", "_law_far_here"]) (sc := defScope s_law) (by decide +kernel)) (fun _ _ _ _ _ => pg_name (i := 9) sc_law.nd rfl (Or.inl rfl)) (fun _ _ _ _ _ => (pts_one (pt_cmpR op_ne (Cl.pe_callF (TT := TTkind ad) (q := wQ) (k := 4) (n := 7) (sc := defScope s_l_works) (NF := NW) (Ds := Dw) (tt := tw ad) (by rfl) T.g_l_kind T.F_l_kind.kp lkN hcgN bN sc_l_kind rfl (Or.inl rfl) (kind_gives T K3 rfl rfl) (hr.mono (by decide)) (pv 9) (dw_ok T)) pe_str (nomark _)))) (fun _ _ _ _ _ => (pv 9))) (pe_lst pa_nil) (nomark _)) (pss_one (ps_ret pe_bl)) pss_nil)
    (pss_cons (ps_for PassesOwn.never rfl (pi_range1 (by rfl) T.n_range (pa_cons (pv 4) pa_nil)) (pg_name (i := 10) sc_law.nd rfl (Or.inl rfl))
      (pss_one (ps_if (pt_not (pt_val (pe_call G_l_same (hr.mono (by decide)) (by rfl) T.g_l_same T.F_l_same.kp T.b_l_same .nil pass0 (pa_cons (pe_lst (pa_cons (pe_meth (pv 7) T.cl T.m_Office_open_numbers G_Office_open_numbers (hr.mono (by decide)) T.b_Office_open_numbers .nil passL (pa_cons (pv 10) pa_nil)) (pa_cons (pe_meth (pv 7) T.cl T.m_Office_rest G_Office_rest (hr.mono (by decide)) T.b_Office_rest .nil passL (pa_cons (pv 10) pa_nil)) pa_nil))) (pa_cons (pe_lst (pa_cons (pe_lst pa_nil) (pa_cons (pe_lst pa_nil) pa_nil))) pa_nil))))) (pss_one (ps_ret pe_bl)) pss_nil)))
    (pss_cons (ps_set (i := 11) sc_law.nd rfl (Or.inr rfl) (pe_ix ix_list (pe_lst (pa_cons pe_int (pa_cons (pe_op op_add (pv 3) pe_int) (pa_cons (pe_call G_l_far (hr.mono (by decide)) (by rfl) T.g_l_far T.F_l_far.kp T.b_l_far .nil pass0 (pa_cons (pv 1) (pa_cons (pv 3) pa_nil))) pa_nil)))) (pe_call G_l_drawn (hr.mono (by decide)) (by rfl) T.g_l_drawn T.F_l_drawn.kp T.b_l_drawn .nil pass0 (pa_cons (pv 1) (pa_cons pe_int pa_nil))) (fun _ _ => rfl)))
    (pss_cons (ps_if (PW.pt (pw_or (pt_cmpR op_ne (LamX.pe_lamcall (k := 2) (T := Tl) (by rfl) T.g_l_kind T.F_l_kind.kp lkN hcgN bN sc_l_kind rfl (Or.inl rfl) (kind_gives T K3 rfl rfl) TB rfl hm9 hu9 (hr.mono (by decide)) (LamX.lamS_by (by show LamX.lamSB (defScope s_law) _ = true; decide +kernel)) rfl (fun _ _ _ _ _ => rfl) (fun A outer s H E f c2 hr2 => pe_call (E := E) G_state_of hr2 (by rfl) T.g_state_of T.F_state_of.kp T.b_state_of .nil passLam (pa_cons (pv 7) (pa_cons (pv 11) pa_nil)))) pe_str (nomark _)) (pw_or1 (pt_not (pt_val (pe_call G_l_same (hr.mono (by decide)) (by rfl) T.g_l_same T.F_l_same.kp T.b_l_same .nil pass0 (pa_cons (pe_call G_gaps (hr.mono (by decide)) (by rfl) T.g_gaps T.F_gaps.kp T.b_gaps .nil pass0 (pa_cons (pv 7) pa_nil)) (pa_cons (pe_lst pa_nil) pa_nil)))))))) (pss_one (ps_ret pe_bl)) pss_nil)
    (pss_one (ps_if (pt_not (pt_val (pe_call G_l_same (hr.mono (by decide)) (by rfl) T.g_l_same T.F_l_same.kp T.b_l_same .nil pass0 (pa_cons (pe_lst (pa_cons (pe_call G_state_of (hr.mono (by decide)) (by rfl) T.g_state_of T.F_state_of.kp T.b_state_of .nil passL (pa_cons (pv 7) (pa_cons pe_int pa_nil))) (pa_cons (pe_call G_state_of (hr.mono (by decide)) (by rfl) T.g_state_of T.F_state_of.kp T.b_state_of .nil passL (pa_cons (pv 7) (pa_cons (pv 3) pa_nil))) pa_nil))) (pa_cons (pe_lst (pa_cons pe_str (pa_cons pe_str pa_nil))) pa_nil))))) (pss_one (ps_ret pe_bl)) pss_nil)))))))))))))))
    (pss_one (ps_ret pe_bl)))), ?_⟩
    refine ⟨_, rfl, a, ns, rfl, S0, fun s H1 ns0 sm1 D1 => ?_⟩
    have t1 := TB0.ext sm1
    have tk : ∀ {Ha Hb : Hp}, LamX.Tabs Tl Ha → Drw K Ha s a ns → Keep [s] Ha Hb → LamX.Tabs Tl Hb := fun {Ha Hb} t d k => tabs_draw t k (let ⟨_, _, _, e, _⟩ := d.at_; ⟨_, e⟩)
    refine ⟨(6 : Int), rfl, by decide, by decide, ?_⟩
    refine for_range (lo := 0) (n := ((6 : Int)).toNat) (fun i σ H' => ∃ (v2 v3 v4 v5 v6 v7 v8 v10 v11 : Option V), σ = [some (.ref a), some (.ref s), v2, v3, v4, v5, v6, v7, v8, none, v10, v11] ∧ Drw K H' s a ns ∧ LamX.Tabs Tl H')
      ⟨none, none, none, none, none, none, none, none, none, rfl, D1, t1⟩ ?_ ?_
    · clear D1 t1
      rintro i σ H5 hi ⟨v2, v3, v4, v5, v6, v7, v8, v10, v11, rfl, D5, t5⟩
      -- top, desks
      refine ⟨_, rfl, s, a, ns, 400, rfl, D5, by decide, by decide, fun u1 H6 u10 u11 k6 D6 => ?_⟩
      have t6 := tk t5 D5 k6
      refine ⟨_, _, rfl, rfl, ?_⟩
      refine ⟨_, rfl, s, a, ns, 6, rfl, D6, by decide, by decide, fun u2 H7 u20 u21 k7 D7 => ?_⟩
      have t7 := tk t6 D6 k7
      refine ⟨_, _, rfl, rfl, ?_⟩
      -- odd
      refine ⟨_, rfl, s, a, ns, 400, rfl, D7, by decide, by decide, fun wo H8 iok1 or1 k8 D8 => ⟨(by show 2 ≤ sizeLine; decide), fun l1 nl1 => ?_⟩⟩
      have D8' := D8.new (o := .lst [V.int 0, V.int wo]) nl1
      have t8 := (tk t7 D7 k8).ext (same_upd (o := .lst [V.int 0, V.int wo]) nl1)
      refine ⟨_, rfl, s, a, ns, 2, rfl, D8', by decide, by decide, fun u3 H9 u30 u31 k9 D9 => ?_⟩
      have t9 := tk t8 D8' k9
      obtain ⟨x1, ex1, hx1⟩ := pick2 u30 u31 0 wo
      refine ⟨l1, _, u3, _, rfl, rfl, SqL.of (k9 _ _ upd_same (D8.ns nl1)), ex1, ?_⟩
      have ok1 : IntOk x1 := by
        rcases hx1 with rfl | rfl
        · exact intOkS (by decide) (by decide)
        · exact iok1
      -- other
      refine ⟨_, rfl, s, a, ns, 6, rfl, D9, by decide, by decide, fun wp H10 iok2 or2 k10 D10 => ⟨(by show 2 ≤ sizeLine; decide), fun l2 nl2 => ?_⟩⟩
      have D10' := D10.new (o := .lst [V.int 0, V.int wp]) nl2
      have t10 := (tk t9 D9 k10).ext (same_upd (o := .lst [V.int 0, V.int wp]) nl2)
      refine ⟨_, rfl, s, a, ns, 2, rfl, D10', by decide, by decide, fun u4 H11 u40 u41 k11 D11 => ?_⟩
      have t11 := tk t10 D10' k11
      obtain ⟨x2, ex2, hx2⟩ := pick2 u40 u41 0 wp
      refine ⟨l2, _, u4, _, rfl, rfl, SqL.of (k11 _ _ upd_same (D10.ns nl2)), ex2, ?_⟩
      have ok2 : IntOk x2 := by
        rcases hx2 with rfl | rfl
        · exact intOkS (by decide) (by decide)
        · exact iok2
      have ot : IntOk (1 + u1) := intOkS (by omega) (by omega)
      have od2 : IntOk (1 + u2) := intOkS (by omega) (by omega)
      -- Office(odd, desks)
      refine ⟨t11, fun H12 e12 t12 => ?_⟩
      have D12 := D11.ext e12
      refine ⟨_, rfl, _, rfl, fun x dx nx ndx nex => ⟨x, dx, x1, 1 + u2, rfl, upd_same, ok1, od2, fun _ => ⟨0, by decide, rfl, rfl, fun H13 s13 => ?_⟩, fun h => absurd h (by omega), fun h => absurd h (by omega)⟩⟩
      have s12 := (same_mk (u := .own x) (v := .ins ad.C dx []) nx ndx).trans s13
      have D13 := D12.same s12
      have t13 := t12.ext s12
      refine ⟨rfl, _, rfl, ?_⟩
      rw [ne_same (show word3 0 = "NoOffice" from rfl)]
      refine iteF ?_
      -- Office(top, other)
      refine ⟨t13, fun H14 e14 t14 => ?_⟩
      have D14 := D13.ext e14
      refine ⟨_, rfl, _, rfl, fun x dx nx ndx nex => ⟨x, dx, 1 + u1, x2, rfl, upd_same, ot, ok2, fun h => absurd ⟨by omega, by omega⟩ h, fun _ _ => ⟨0, by decide, rfl, rfl, fun H15 s15 => ?_⟩, fun _ h => absurd h (by omega)⟩⟩
      have s14 := (same_mk (u := .own x) (v := .ins ad.C dx []) nx ndx).trans s15
      have D15 := D14.same s14
      have t15 := t14.ext s14
      refine ⟨rfl, _, rfl, ?_⟩
      rw [ne_same (show word3 0 = "NoOffice" from rfl)]
      refine iteF ?_
      clear D14 D13 D12 t14 t13 t12 e14 e12 s14 s12 s13 s15
      -- the office
      refine ⟨_, rfl, _, rfl, fun x dx nx ndx nex => ⟨x, dx, 1 + u1, 1 + u2, rfl, upd_same, ot, od2, fun c => absurd ⟨by omega, by omega⟩ c, fun _ c => absurd ⟨by omega, by omega⟩ c, fun _ _ F H16 eFp eFdx ff kp O => ⟨rfl, ?_⟩⟩⟩
      have s16 : Same H15 H16 := fun c u e => by
        have c2 : c ≠ x := fun z => by rw [z, nx] at e; cases e
        exact kp c u (same_mk (u := .own x) (v := .ins ad.C dx []) nx ndx _ _ e) fun z => c2 (List.mem_singleton.mp z)
      have D16 := D15.same s16
      have t16 := t15.ext s16
      have newF : ∀ c ∈ F.foot, H15 c = none := fun c hc => by
        rcases ff c hc with z | z
        · rw [z]
          exact nx
        · have c2 : c ≠ x := fun q => by rw [q, upd_same] at z; cases z
          rw [upd_ne c2] at z
          have c1 : c ≠ dx := fun q => by rw [q, upd_same] at z; cases z
          rw [upd_ne c1] at z
          exact z
      have Fs : s ∉ F.foot := fun z => by
        obtain ⟨i, m, r, e, _⟩ := D15.at_
        rw [newF s z] at e
        cases e
      have W := wf_new (t := (1 + u1).toNat) (d := (1 + u2).toNat) (by omega) (by omega) (by omega) (by omega)
      have hsg : (Of.new (1 + u1).toNat (1 + u2).toNat).sg.length = (1 + u2).toNat := List.length_replicate
      have hst : ∀ n, (Of.new (1 + u1).toNat (1 + u2).toNat).st n = "free" := fun _ => rfl
      have htp : (Of.new (1 + u1).toNat (1 + u2).toNat).top = (1 + u1).toNat := rfl
      have hgo : ∀ j, j < (1 + u2).toNat → (Of.new (1 + u1).toNat (1 + u2).toNat).sg[j]? = some "going" := fun j hj => by
        show (List.replicate (1 + u2).toNat ("going" : Str))[j]? = _
        rw [List.getElem?_replicate, if_pos hj]
        rfl
      have hle : ∀ j, ((Of.new (1 + u1).toNat (1 + u2).toNat).le.getD j []) = [] := fun j => by
        show ((List.replicate (1 + u2).toNat ([] : List Int)).getD j []) = []
        rw [List.getD_eq_getElem?_getD, List.getElem?_replicate]
        split <;> rfl
      have hgr := new_gaps (1 + u1).toNat (1 + u2).toNat
      generalize Of.new (1 + u1).toNat (1 + u2).toNat = o at O W hsg hst htp hgo hle hgr
      subst eFp
      clear D15 t15 nx ndx nex ff kp eFdx newF s16
      -- bad
      refine ⟨_, rfl, _, rfl, _, _, rfl, rfl, s, a, ns, _, rfl, D16, by omega, by omega, fun bad H17 iok3 or3 k17 D17 => ?_⟩
      have t17 := tk t16 D16 k17
      have O17 : Off ad H17 F o := O.stay fun c hc u e => k17 c u e fun z => Fs (by rw [← List.mem_singleton.mp z]; exact hc)
      have hnd : ¬ (0 ≤ bad ∧ bad < (o.sg.length : Int)) := by omega
      refine ⟨_, rfl, _, rfl, _, _, _, rfl, t17, fun r fs H18 cells cs WI7 l7 R => ⟨r, rfl, ⟨_, SqL.of WI7.hr⟩, fun D nD => ?_⟩⟩
      have O18 := O17.ext WI7.ex
      have D18 := D17.ext WI7.ex
      refine lc_list (K := K) (a := r) (xs := fs.map V.ref) (fun j H' => Same H18 H' ∧ H' D = some (.lst [])) ⟨same_upd nD, upd_same⟩ (fun j H' _ ⟨s2, _⟩ => SqL.of (s2 _ _ WI7.hr)) ?_ ?_
      · rintro j y H' hy ⟨s2, hD⟩
        rw [List.getElem?_map] at hy
        obtain ⟨f, ef, rfl⟩ := Option.map_eq_some_iff.mp hy
        have hj : j < 7 := by
          have := (List.getElem?_eq_some_iff.mp ef).1
          omega
        obtain ⟨c', h1, h2⟩ := WI7.at_ j f ef
        have R2 := reg_same R s2
        refine ⟨wipe1 _ _ _, ?_⟩
        refine ⟨f, c', j, cells, cs, [some (.ref F.p), some (.int bad), some (.int 0), some (.ref r)], hj, rfl, s2 _ _ h2, s2 _ _ h1, R2, ?_⟩
        refine tw_noDesk (Off.rm (O18.stay fun c _ u e => s2 c u e) R2.all) W iok3 hnd (fun H'' s'' => ⟨1, by decide, rfl, rfl, fun H3 s3 => ?_⟩) j hj
        refine ⟨rfl, _, rfl, ?_⟩
        rw [ne_same (show word3 1 = "NoDesk" from rfl)]
        have s13 := (put_same s'').trans s3
        exact iteF ⟨s2.trans s13, s13 _ _ hD⟩
      rintro H19 ⟨s19, hD⟩
      refine ⟨Nat.zero_le _, fun e ne => ?_⟩
      refine ⟨.list [], .list [], .lst (SqL.of (same_upd ne _ _ hD)) .nil, .lst (SqL.of upd_same) .nil, by decide, by decide, _, rfl, ?_⟩
      refine iteF ?_
      have s20 := s19.trans (same_upd (o := .lst []) ne)
      have O20 : Off ad (upd H19 e (.lst [])) F o := O18.stay fun c _ u e => s20 c u e
      have D20 := D18.same s20
      have t20 := WI7.tb.ext s20
      generalize upd H19 e (.lst []) = H20 at O20 D20 t20 ⊢
      clear s20 s19 hD ne D18 O18 WI7 l7 R nD t17 O17 D17 D16 t16 O
      -- each desk
      refine ⟨_, rfl, 1 + u2, rfl, by omega, by omega, ?_⟩
      refine for_range (lo := 0) (n := (1 + u2).toNat) (fun j σ H' => ∃ (v10 : Option V), σ = [some (.ref a), some (.ref s), some (.int (0 + (i : Int))), some (.int (1 + u1)), some (.int (1 + u2)), some (.int x1), some (.int x2), some (.ref F.p), some (.int bad), none, v10, v11] ∧ Drw K H' s a ns ∧ LamX.Tabs Tl H' ∧ Off ad H' F o)
        ⟨v10, rfl, D20, t20, O20⟩ ?_ ?_
      · clear O20 D20 t20
        rintro j σ H21 hj ⟨v10, rfl, D21, t21, O21⟩
        have e0 : (0 : Int) + (j : Int) = (j : Int) := by omega
        rw [e0]
        have gj := hgo j hj
        refine ⟨_, rfl, F.p, F.dx, _, rfl, O21.ob, ofl_m F, _, rfl, F, o, (j : Int), rfl, O21, W, log_nat (by omega), fun c => absurd ⟨by omega, by omega⟩ c, fun i1 z1 e1 e2 r1 nr1 => ?_⟩
        have ei : i1 = j := by omega
        subst ei
        rw [gj] at e2
        cases e2
        rw [if_pos rfl, hle]
        have s1 : Same H21 (upd H21 r1 (.lst (List.map V.int []))) := same_upd nr1
        have a1 : (upd H21 r1 (.lst (List.map V.int []))) r1 = some (.lst []) := upd_same
        have O22 : Off ad (upd H21 r1 (.lst (List.map V.int []))) F o := O21.stay fun c _ u e => s1 c u e
        generalize upd H21 r1 (.lst (List.map V.int [])) = H22 at s1 a1 O22 ⊢
        refine ⟨_, rfl, F.p, F.dx, _, rfl, O22.ob, ofl_m F, _, rfl, F, o, (i1 : Int), rfl, O22, W, log_nat (by omega), fun c => absurd ⟨by omega, by omega⟩ c, fun i2 z2 e3 e4 r2 nr2 => ?_⟩
        have ei : i2 = i1 := by omega
        subst ei
        rw [gj] at e4
        cases e4
        rw [if_neg (by decide +kernel)]
        have s2 : Same H22 (upd H22 r2 (.lst [])) := same_upd nr2
        have a2 : (upd H22 r2 (.lst [])) r2 = some (.lst []) := upd_same
        generalize upd H22 r2 (.lst []) = H23 at s2 a2 ⊢
        refine ⟨(by show 2 ≤ sizeLine; decide), fun la nla => ?_⟩
        have s3 : Same H23 (upd H23 la (.lst [V.ref r1, V.ref r2])) := same_upd nla
        have a3 : (upd H23 la (.lst [V.ref r1, V.ref r2])) la = some (.lst [V.ref r1, V.ref r2]) := upd_same
        generalize upd H23 la (.lst [V.ref r1, V.ref r2]) = H24 at s3 a3 ⊢
        refine ⟨Nat.zero_le _, fun m1 nm1 => ?_⟩
        have s4 : Same H24 (upd H24 m1 (.lst [])) := same_upd nm1
        have a4 : (upd H24 m1 (.lst [])) m1 = some (.lst []) := upd_same
        generalize upd H24 m1 (.lst []) = H25 at s4 a4 ⊢
        refine ⟨Nat.zero_le _, fun m2 nm2 => ?_⟩
        have s5 : Same H25 (upd H25 m2 (.lst [])) := same_upd nm2
        have a5 : (upd H25 m2 (.lst [])) m2 = some (.lst []) := upd_same
        generalize upd H25 m2 (.lst []) = H26 at s5 a5 ⊢
        refine ⟨(by show 2 ≤ sizeLine; decide), fun lb nlb => ?_⟩
        have s6 : Same H26 (upd H26 lb (.lst [V.ref m1, V.ref m2])) := same_upd nlb
        have a6 : (upd H26 lb (.lst [V.ref m1, V.ref m2])) lb = some (.lst [V.ref m1, V.ref m2]) := upd_same
        generalize upd H26 lb (.lst [V.ref m1, V.ref m2]) = H27 at s6 a6 ⊢
        have s36 := ((s3.trans s4).trans s5).trans s6
        have s26 := s2.trans s36
        have s16 := s1.trans s26
        refine ⟨.ref la, .ref lb, rfl, ?_, fun H28 s28 => ⟨_, rfl, iteF ?_⟩⟩
        · refine .inr ⟨la, lb, [V.ref r1, V.ref r2], [V.ref m1, V.ref m2], true, rfl, rfl, ((s4.trans s5).trans s6) _ _ a3, a6, rfl, (by show 2 ≤ 1000; decide), fun ix u v hu hv => ?_⟩
          match ix, hu, hv with
          | 0, hu, hv =>
            cases hu
            cases hv
            exact .inr ⟨r1, m1, [], [], true, rfl, rfl, s26 _ _ a1, (s5.trans s6) _ _ a4, rfl, Nat.zero_le _, fun i u v hu => by simp at hu⟩
          | 1, hu, hv =>
            cases hu
            cases hv
            exact .inr ⟨r2, m2, [], [], true, rfl, rfl, s36 _ _ a2, s6 _ _ a5, rfl, Nat.zero_le _, fun i u v hu => by simp at hu⟩
          | ix + 2, hu, hv => simp at hu
        have s17 := s16.trans s28
        exact ⟨_, rfl, D21.same s17, t21.ext s17, O21.stay fun c _ u e => s17 c u e⟩
      rintro σ H21 ⟨v10, rfl, D21, t21, O21⟩
      clear O20 D20 t20
      -- far
      refine ⟨_, rfl, _, _, rfl, rfl, _, rfl, _, rfl, s, a, ns, _, rfl, D21, by omega, by omega, fun wf H22 iok4 or4 k22 D22 => ⟨(by show 3 ≤ sizeLine; decide), fun l3 nl3 => ?_⟩⟩
      have O22 : Off ad H22 F o := O21.stay fun c hc u e => k22 c u e fun z => Fs (by rw [← List.mem_singleton.mp z]; exact hc)
      have s23 := same_upd (o := .lst [V.int 0, V.int (1 + u1 + 1), V.int wf]) nl3
      have D23 := D22.same s23
      have t23 := (tk t21 D21 k22).ext s23
      have O23 : Off ad _ F o := O22.stay fun c _ u e => s23 c u e
      refine ⟨_, rfl, s, a, ns, 3, rfl, D23, by decide, by decide, fun u5 H24 u50 u51 k24 D24 => ?_⟩
      have t24 := tk t23 D23 k24
      have O24 : Off ad H24 F o := O23.stay fun c hc u e => k24 c u e fun z => Fs (by rw [← List.mem_singleton.mp z]; exact hc)
      obtain ⟨x3, ex3, hx3⟩ := pick3 u50 u51 0 (1 + u1 + 1) wf
      refine ⟨l3, _, u5, _, rfl, rfl, SqL.of (k24 _ _ upd_same (D22.ns nl3)), ex3, ?_⟩
      have ok3 : IntOk x3 := by
        rcases hx3 with rfl | rfl | rfl
        · exact intOkS (by decide) (by decide)
        · exact intOkS (by omega) (by omega)
        · exact iok4
      refine ⟨t24, fun H25 e25 t25 => ?_⟩
      have O25 := O24.ext e25
      have D25 := D24.ext e25
      refine ⟨_, rfl, _, rfl, F, o, x3, rfl, O25, ok3, fun _ => ⟨2, by decide, rfl, rfl, fun H26 s26 => ?_⟩, fun h => absurd h (by omega)⟩
      have O26 : Off ad H26 F o := O25.stay fun c _ u e => s26 c u e
      have D26 := D25.same s26
      have t26 := t25.ext s26
      refine ⟨rfl, _, rfl, ?_⟩
      rw [ne_same (show word3 2 = "NoNumber" from rfl)]
      refine iteF ?_
      refine ⟨_, rfl, F, o, rfl, O26, W, fun g p ts H27 hg s27 np hp hga => ?_⟩
      have eg := hg.uniq hgr
      subst eg
      have lts : ts = [] := List.eq_nil_of_length_eq_zero hga.1
      subst lts
      refine ⟨Nat.zero_le _, fun e2 ne2 => ?_⟩
      have s28 := same_upd (o := .lst []) ne2
      refine ⟨.ref p, .ref e2, rfl, .inr ⟨p, e2, [], [], true, rfl, rfl, s28 _ _ hp, upd_same, rfl, Nat.zero_le _, fun i u v hu => by simp at hu⟩, fun H29 s29 => ⟨_, rfl, iteF ?_⟩⟩
      have s2629 := (s27.trans s28).trans s29
      have O29 : Off ad H29 F o := O26.stay fun c _ u e => s2629 c u e
      have D29 := D26.same s2629
      have t29 := t26.ext s2629
      -- first and last
      refine ⟨_, rfl, F, o, 1, rfl, O29, intOkS (by decide) (by decide), fun c => absurd ⟨by omega, by omega⟩ c, fun _ => ?_⟩
      refine ⟨_, rfl, _, rfl, F, o, 1 + u1, rfl, O29, ot, fun c => absurd ⟨by omega, by omega⟩ c, fun _ => ?_⟩
      rw [hst, hst]
      refine ⟨(by show 2 ≤ sizeLine; decide), fun la nla => ⟨(by show 2 ≤ sizeLine; decide), fun lb nlb => ?_⟩⟩
      have s30 := same_upd (o := .lst [V.str "free", V.str "free"]) nla
      have s31 := same_upd (o := .lst [V.str "free", V.str "free"]) nlb
      refine ⟨.ref la, .ref lb, rfl, .inr ⟨la, lb, [V.str "free", V.str "free"], [V.str "free", V.str "free"], true, rfl, rfl, s31 _ _ upd_same, upd_same, rfl, (by show 2 ≤ 1000; decide), fun ix u v hu hv => ?_⟩, fun H32 s32 => ⟨_, rfl, iteF ?_⟩⟩
      · rw [hu] at hv
        cases hv
        refine .inl ⟨rfl, ?_⟩
        match ix, hu with
        | 0, hu => cases hu; rfl
        | 1, hu => cases hu; rfl
        | ix + 2, hu => simp at hu
      have s3032 := (s30.trans s31).trans s32
      exact ⟨_, _, _, _, _, _, _, _, _, rfl, D29.same s3032, t29.ext s3032⟩
    · rintro σ H5 ⟨v2, v3, v4, v5, v6, v7, v8, v10, v11, rfl, D5, t5⟩
      exact k _
end
end Nu
namespace Nu
open PySem PySem.Spec PyProof.Rows L2
theorem lt3 {p : Nat → Prop} (h0 : p 0) (h1 : p 1) (h2 : p 2) : ∀ j, j < 3 → p j := fun j hj => by
  match j, hj with
  | 0, _ => exact h0
  | 1, _ => exact h1
  | 2, _ => exact h2
  | j + 3, hj => omega
theorem all_mk {l : PySem.W.OpenLaw} {w : World} {K : PySem.W.Frag} {h : Heap} {mg : Str → Option Value} {fa : Addr} (X : K.In h) (G : h.Ns mainGlobals mg) (hfa : mg "law" = some (.ref fa)) (own : LamX.OwnTab K fa h) (own8 : ∀ f8, mg "_law_works" = some (.ref f8) → LamX.OwnTab K f8 h)
    {C x_GapError x_NoOffice x_NoDesk x_Stopped x_NoRoom x_NoCount x_NoWord x_Short x_NoNumber x_Twice x_NotThere x_NoWorld x_NoBox : Addr}
    {f_Office_init : Addr} {od_Office_init an_Office_init : Option Addr} {sl_Office_init : Array (Option Value)} {oc_Office_init kV_Office_init dc_Office_init pm_Office_init cd_Office_init ct_Office_init : Value}
    {f_Office_lend : Addr} {od_Office_lend an_Office_lend : Option Addr} {sl_Office_lend : Array (Option Value)} {oc_Office_lend kV_Office_lend dc_Office_lend pm_Office_lend cd_Office_lend ct_Office_lend : Value}
    {f_Office_report : Addr} {od_Office_report an_Office_report : Option Addr} {sl_Office_report : Array (Option Value)} {oc_Office_report kV_Office_report dc_Office_report pm_Office_report cd_Office_report ct_Office_report : Value}
    {f_Office_back : Addr} {od_Office_back an_Office_back : Option Addr} {sl_Office_back : Array (Option Value)} {oc_Office_back kV_Office_back dc_Office_back pm_Office_back cd_Office_back ct_Office_back : Value}
    {f_Office_stop : Addr} {od_Office_stop an_Office_stop : Option Addr} {sl_Office_stop : Array (Option Value)} {oc_Office_stop kV_Office_stop dc_Office_stop pm_Office_stop cd_Office_stop ct_Office_stop : Value}
    {f_Office_settle : Addr} {od_Office_settle an_Office_settle : Option Addr} {sl_Office_settle : Array (Option Value)} {oc_Office_settle kV_Office_settle dc_Office_settle pm_Office_settle cd_Office_settle ct_Office_settle : Value}
    {f_Office_open_numbers : Addr} {od_Office_open_numbers an_Office_open_numbers : Option Addr} {sl_Office_open_numbers : Array (Option Value)} {oc_Office_open_numbers kV_Office_open_numbers dc_Office_open_numbers pm_Office_open_numbers cd_Office_open_numbers ct_Office_open_numbers : Value}
    {f_Office_rest : Addr} {od_Office_rest an_Office_rest : Option Addr} {sl_Office_rest : Array (Option Value)} {oc_Office_rest kV_Office_rest dc_Office_rest pm_Office_rest cd_Office_rest ct_Office_rest : Value}
    {f_Office_has_rest : Addr} {od_Office_has_rest an_Office_has_rest : Option Addr} {sl_Office_has_rest : Array (Option Value)} {oc_Office_has_rest kV_Office_has_rest dc_Office_has_rest pm_Office_has_rest cd_Office_has_rest ct_Office_has_rest : Value}
    {f_Office_least_used : Addr} {od_Office_least_used an_Office_least_used : Option Addr} {sl_Office_least_used : Array (Option Value)} {oc_Office_least_used kV_Office_least_used dc_Office_least_used pm_Office_least_used cd_Office_least_used ct_Office_least_used : Value}
    {f_Office_numbers : Addr} {od_Office_numbers an_Office_numbers : Option Addr} {sl_Office_numbers : Array (Option Value)} {oc_Office_numbers kV_Office_numbers dc_Office_numbers pm_Office_numbers cd_Office_numbers ct_Office_numbers : Value}
    {f_Office_state : Addr} {od_Office_state an_Office_state : Option Addr} {sl_Office_state : Array (Option Value)} {oc_Office_state kV_Office_state dc_Office_state pm_Office_state cd_Office_state ct_Office_state : Value}
    {f_Office_holder : Addr} {od_Office_holder an_Office_holder : Option Addr} {sl_Office_holder : Array (Option Value)} {oc_Office_holder kV_Office_holder dc_Office_holder pm_Office_holder cd_Office_holder ct_Office_holder : Value}
    {f_Office__check_desk : Addr} {od_Office__check_desk an_Office__check_desk : Option Addr} {sl_Office__check_desk : Array (Option Value)} {oc_Office__check_desk kV_Office__check_desk dc_Office__check_desk pm_Office__check_desk cd_Office__check_desk ct_Office__check_desk : Value}
    {f_Office__check_going : Addr} {od_Office__check_going an_Office__check_going : Option Addr} {sl_Office__check_going : Array (Option Value)} {oc_Office__check_going kV_Office__check_going dc_Office__check_going pm_Office__check_going cd_Office__check_going ct_Office__check_going : Value}
    {f_Office__first_of_free : Addr} {od_Office__first_of_free an_Office__first_of_free : Option Addr} {sl_Office__first_of_free : Array (Option Value)} {oc_Office__first_of_free kV_Office__first_of_free dc_Office__first_of_free pm_Office__first_of_free cd_Office__first_of_free ct_Office__first_of_free : Value}
    {f_Office__let_go : Addr} {od_Office__let_go an_Office__let_go : Option Addr} {sl_Office__let_go : Array (Option Value)} {oc_Office__let_go kV_Office__let_go dc_Office__let_go pm_Office__let_go cd_Office__let_go ct_Office__let_go : Value}
    {f_Office__use : Addr} {od_Office__use an_Office__use : Option Addr} {sl_Office__use : Array (Option Value)} {oc_Office__use kV_Office__use dc_Office__use pm_Office__use cd_Office__use ct_Office__use : Value}
    {f_state_of : Addr} {od_state_of an_state_of : Option Addr} {sl_state_of : Array (Option Value)} {oc_state_of kV_state_of dc_state_of pm_state_of cd_state_of ct_state_of : Value}
    {f_gaps : Addr} {od_gaps an_gaps : Option Addr} {sl_gaps : Array (Option Value)} {oc_gaps kV_gaps dc_gaps pm_gaps cd_gaps ct_gaps : Value}
    {f_greatest_used : Addr} {od_greatest_used an_greatest_used : Option Addr} {sl_greatest_used : Array (Option Value)} {oc_greatest_used kV_greatest_used dc_greatest_used pm_greatest_used cd_greatest_used ct_greatest_used : Value}
    {f_l_start : Addr} {od_l_start an_l_start : Option Addr} {sl_l_start : Array (Option Value)} {oc_l_start kV_l_start dc_l_start pm_l_start cd_l_start ct_l_start : Value}
    {f_l_drawn : Addr} {od_l_drawn an_l_drawn : Option Addr} {sl_l_drawn : Array (Option Value)} {oc_l_drawn kV_l_drawn dc_l_drawn pm_l_drawn cd_l_drawn ct_l_drawn : Value}
    {f_l_same : Addr} {od_l_same an_l_same : Option Addr} {sl_l_same : Array (Option Value)} {oc_l_same kV_l_same dc_l_same pm_l_same cd_l_same ct_l_same : Value}
    {f_l_far : Addr} {od_l_far an_l_far : Option Addr} {sl_l_far : Array (Option Value)} {oc_l_far kV_l_far dc_l_far pm_l_far cd_l_far ct_l_far : Value}
    {f_l_kind : Addr} {od_l_kind an_l_kind : Option Addr} {sl_l_kind : Array (Option Value)} {oc_l_kind kV_l_kind dc_l_kind pm_l_kind cd_l_kind ct_l_kind : Value}
    {f_l_works : Addr} {od_l_works an_l_works : Option Addr} {sl_l_works : Array (Option Value)} {oc_l_works kV_l_works dc_l_works pm_l_works cd_l_works ct_l_works : Value}
    {f_law : Addr} {od_law an_law : Option Addr} {sl_law : Array (Option Value)} {oc_law kV_law dc_law pm_law cd_law ct_law : Value}
    {t_MOST_NUMBERS : _}
    {t_MOST_DESKS : _}
    {t_FREE : _}
    {t_OPEN : _}
    {t_PAPER : _}
    {t_SPOILT : _}
    {t_USED : _}
    {t_REST : _}
    {t_GOING : _}
    {t_STOPPED : _}
    {t_SETTLED : _}
    {c8 P8 : Addr} {oc8 : Value} {od8 : Option Addr} {vs8 : Array Value} {sl8 : Array (Option Value)}
    {c9 P9 : Addr} {oc9 : Value} {od9 : Option Addr} {vs9 : Array Value} {sl9 : Array (Option Value)}
    (hC : PySem.W.nsIn K mainGlobals "Office" = some (some (.ref C)))
    (hn_ValueError : PySem.W.nsIn K mainGlobals "ValueError" = some none)
    (hn_bool : PySem.W.nsIn K mainGlobals "bool" = some none)
    (hn_dict : PySem.W.nsIn K mainGlobals "dict" = some none)
    (hn_int : PySem.W.nsIn K mainGlobals "int" = some none)
    (hn_isinstance : PySem.W.nsIn K mainGlobals "isinstance" = some none)
    (hn_len : PySem.W.nsIn K mainGlobals "len" = some none)
    (hn_list : PySem.W.nsIn K mainGlobals "list" = some none)
    (hn_max : PySem.W.nsIn K mainGlobals "max" = some none)
    (hn_range : PySem.W.nsIn K mainGlobals "range" = some none)
    (hn_sorted : PySem.W.nsIn K mainGlobals "sorted" = some none)
    (hn_str : PySem.W.nsIn K mainGlobals "str" = some none)
    (hn_tuple : PySem.W.nsIn K mainGlobals "tuple" = some none)
    (hn_zip : PySem.W.nsIn K mainGlobals "zip" = some none)
    (hc_MOST_NUMBERS : PySem.W.nsIn K mainGlobals "MOST_NUMBERS" = some (some (.int 400 t_MOST_NUMBERS)))
    (hc_MOST_DESKS : PySem.W.nsIn K mainGlobals "MOST_DESKS" = some (some (.int 6 t_MOST_DESKS)))
    (hc_FREE : PySem.W.nsIn K mainGlobals "FREE" = some (some (.str "free" t_FREE)))
    (hc_OPEN : PySem.W.nsIn K mainGlobals "OPEN" = some (some (.str "open" t_OPEN)))
    (hc_PAPER : PySem.W.nsIn K mainGlobals "PAPER" = some (some (.str "paper" t_PAPER)))
    (hc_SPOILT : PySem.W.nsIn K mainGlobals "SPOILT" = some (some (.str "spoilt" t_SPOILT)))
    (hc_USED : PySem.W.nsIn K mainGlobals "USED" = some (some (.str "used" t_USED)))
    (hc_REST : PySem.W.nsIn K mainGlobals "REST" = some (some (.str "rest" t_REST)))
    (hc_GOING : PySem.W.nsIn K mainGlobals "GOING" = some (some (.str "going" t_GOING)))
    (hc_STOPPED : PySem.W.nsIn K mainGlobals "STOPPED" = some (some (.str "stopped" t_STOPPED)))
    (hc_SETTLED : PySem.W.nsIn K mainGlobals "SETTLED" = some (some (.str "settled" t_SETTLED)))
    (ha_Office_init : PySem.W.findIn K (.ref C) "__init__" = some (some (.ref f_Office_init)))
    (hi_Office_init : PySem.W.isFn K (.ref f_Office_init) = true)
    (hl_Office_init : K.lookup f_Office_init = some ⟨oc_Office_init, od_Office_init, .func (PySem.W.fnOf "__init__" "Office.__init__" (defArgs s_Office_init) (defBody s_Office_init) (defScope s_Office_init) .none kV_Office_init dc_Office_init pm_Office_init an_Office_init cd_Office_init ct_Office_init), sl_Office_init⟩)
    (hd_Office_init : PySem.W.codeIn K cd_Office_init "Office.__init__" = true)
    (hk_Office_init : PySem.W.keepIn K (.ref f_Office_init) = true)
    (ha_Office_lend : PySem.W.findIn K (.ref C) "lend" = some (some (.ref f_Office_lend)))
    (hi_Office_lend : PySem.W.isFn K (.ref f_Office_lend) = true)
    (hl_Office_lend : K.lookup f_Office_lend = some ⟨oc_Office_lend, od_Office_lend, .func (PySem.W.fnOf "lend" "Office.lend" (defArgs s_Office_lend) (defBody s_Office_lend) (defScope s_Office_lend) .none kV_Office_lend dc_Office_lend pm_Office_lend an_Office_lend cd_Office_lend ct_Office_lend), sl_Office_lend⟩)
    (hd_Office_lend : PySem.W.codeIn K cd_Office_lend "Office.lend" = true)
    (hk_Office_lend : PySem.W.keepIn K (.ref f_Office_lend) = true)
    (ha_Office_report : PySem.W.findIn K (.ref C) "report" = some (some (.ref f_Office_report)))
    (hi_Office_report : PySem.W.isFn K (.ref f_Office_report) = true)
    (hl_Office_report : K.lookup f_Office_report = some ⟨oc_Office_report, od_Office_report, .func (PySem.W.fnOf "report" "Office.report" (defArgs s_Office_report) (defBody s_Office_report) (defScope s_Office_report) .none kV_Office_report dc_Office_report pm_Office_report an_Office_report cd_Office_report ct_Office_report), sl_Office_report⟩)
    (hd_Office_report : PySem.W.codeIn K cd_Office_report "Office.report" = true)
    (hk_Office_report : PySem.W.keepIn K (.ref f_Office_report) = true)
    (ha_Office_back : PySem.W.findIn K (.ref C) "back" = some (some (.ref f_Office_back)))
    (hi_Office_back : PySem.W.isFn K (.ref f_Office_back) = true)
    (hl_Office_back : K.lookup f_Office_back = some ⟨oc_Office_back, od_Office_back, .func (PySem.W.fnOf "back" "Office.back" (defArgs s_Office_back) (defBody s_Office_back) (defScope s_Office_back) .none kV_Office_back dc_Office_back pm_Office_back an_Office_back cd_Office_back ct_Office_back), sl_Office_back⟩)
    (hd_Office_back : PySem.W.codeIn K cd_Office_back "Office.back" = true)
    (hk_Office_back : PySem.W.keepIn K (.ref f_Office_back) = true)
    (ha_Office_stop : PySem.W.findIn K (.ref C) "stop" = some (some (.ref f_Office_stop)))
    (hi_Office_stop : PySem.W.isFn K (.ref f_Office_stop) = true)
    (hl_Office_stop : K.lookup f_Office_stop = some ⟨oc_Office_stop, od_Office_stop, .func (PySem.W.fnOf "stop" "Office.stop" (defArgs s_Office_stop) (defBody s_Office_stop) (defScope s_Office_stop) .none kV_Office_stop dc_Office_stop pm_Office_stop an_Office_stop cd_Office_stop ct_Office_stop), sl_Office_stop⟩)
    (hd_Office_stop : PySem.W.codeIn K cd_Office_stop "Office.stop" = true)
    (hk_Office_stop : PySem.W.keepIn K (.ref f_Office_stop) = true)
    (ha_Office_settle : PySem.W.findIn K (.ref C) "settle" = some (some (.ref f_Office_settle)))
    (hi_Office_settle : PySem.W.isFn K (.ref f_Office_settle) = true)
    (hl_Office_settle : K.lookup f_Office_settle = some ⟨oc_Office_settle, od_Office_settle, .func (PySem.W.fnOf "settle" "Office.settle" (defArgs s_Office_settle) (defBody s_Office_settle) (defScope s_Office_settle) .none kV_Office_settle dc_Office_settle pm_Office_settle an_Office_settle cd_Office_settle ct_Office_settle), sl_Office_settle⟩)
    (hd_Office_settle : PySem.W.codeIn K cd_Office_settle "Office.settle" = true)
    (hk_Office_settle : PySem.W.keepIn K (.ref f_Office_settle) = true)
    (ha_Office_open_numbers : PySem.W.findIn K (.ref C) "open_numbers" = some (some (.ref f_Office_open_numbers)))
    (hi_Office_open_numbers : PySem.W.isFn K (.ref f_Office_open_numbers) = true)
    (hl_Office_open_numbers : K.lookup f_Office_open_numbers = some ⟨oc_Office_open_numbers, od_Office_open_numbers, .func (PySem.W.fnOf "open_numbers" "Office.open_numbers" (defArgs s_Office_open_numbers) (defBody s_Office_open_numbers) (defScope s_Office_open_numbers) .none kV_Office_open_numbers dc_Office_open_numbers pm_Office_open_numbers an_Office_open_numbers cd_Office_open_numbers ct_Office_open_numbers), sl_Office_open_numbers⟩)
    (hd_Office_open_numbers : PySem.W.codeIn K cd_Office_open_numbers "Office.open_numbers" = true)
    (hk_Office_open_numbers : PySem.W.keepIn K (.ref f_Office_open_numbers) = true)
    (ha_Office_rest : PySem.W.findIn K (.ref C) "rest" = some (some (.ref f_Office_rest)))
    (hi_Office_rest : PySem.W.isFn K (.ref f_Office_rest) = true)
    (hl_Office_rest : K.lookup f_Office_rest = some ⟨oc_Office_rest, od_Office_rest, .func (PySem.W.fnOf "rest" "Office.rest" (defArgs s_Office_rest) (defBody s_Office_rest) (defScope s_Office_rest) .none kV_Office_rest dc_Office_rest pm_Office_rest an_Office_rest cd_Office_rest ct_Office_rest), sl_Office_rest⟩)
    (hd_Office_rest : PySem.W.codeIn K cd_Office_rest "Office.rest" = true)
    (hk_Office_rest : PySem.W.keepIn K (.ref f_Office_rest) = true)
    (ha_Office_has_rest : PySem.W.findIn K (.ref C) "has_rest" = some (some (.ref f_Office_has_rest)))
    (hi_Office_has_rest : PySem.W.isFn K (.ref f_Office_has_rest) = true)
    (hl_Office_has_rest : K.lookup f_Office_has_rest = some ⟨oc_Office_has_rest, od_Office_has_rest, .func (PySem.W.fnOf "has_rest" "Office.has_rest" (defArgs s_Office_has_rest) (defBody s_Office_has_rest) (defScope s_Office_has_rest) .none kV_Office_has_rest dc_Office_has_rest pm_Office_has_rest an_Office_has_rest cd_Office_has_rest ct_Office_has_rest), sl_Office_has_rest⟩)
    (hd_Office_has_rest : PySem.W.codeIn K cd_Office_has_rest "Office.has_rest" = true)
    (hk_Office_has_rest : PySem.W.keepIn K (.ref f_Office_has_rest) = true)
    (ha_Office_least_used : PySem.W.findIn K (.ref C) "least_used" = some (some (.ref f_Office_least_used)))
    (hi_Office_least_used : PySem.W.isFn K (.ref f_Office_least_used) = true)
    (hl_Office_least_used : K.lookup f_Office_least_used = some ⟨oc_Office_least_used, od_Office_least_used, .func (PySem.W.fnOf "least_used" "Office.least_used" (defArgs s_Office_least_used) (defBody s_Office_least_used) (defScope s_Office_least_used) .none kV_Office_least_used dc_Office_least_used pm_Office_least_used an_Office_least_used cd_Office_least_used ct_Office_least_used), sl_Office_least_used⟩)
    (hd_Office_least_used : PySem.W.codeIn K cd_Office_least_used "Office.least_used" = true)
    (hk_Office_least_used : PySem.W.keepIn K (.ref f_Office_least_used) = true)
    (ha_Office_numbers : PySem.W.findIn K (.ref C) "numbers" = some (some (.ref f_Office_numbers)))
    (hi_Office_numbers : PySem.W.isFn K (.ref f_Office_numbers) = true)
    (hl_Office_numbers : K.lookup f_Office_numbers = some ⟨oc_Office_numbers, od_Office_numbers, .func (PySem.W.fnOf "numbers" "Office.numbers" (defArgs s_Office_numbers) (defBody s_Office_numbers) (defScope s_Office_numbers) .none kV_Office_numbers dc_Office_numbers pm_Office_numbers an_Office_numbers cd_Office_numbers ct_Office_numbers), sl_Office_numbers⟩)
    (hd_Office_numbers : PySem.W.codeIn K cd_Office_numbers "Office.numbers" = true)
    (hk_Office_numbers : PySem.W.keepIn K (.ref f_Office_numbers) = true)
    (ha_Office_state : PySem.W.findIn K (.ref C) "state" = some (some (.ref f_Office_state)))
    (hi_Office_state : PySem.W.isFn K (.ref f_Office_state) = true)
    (hl_Office_state : K.lookup f_Office_state = some ⟨oc_Office_state, od_Office_state, .func (PySem.W.fnOf "state" "Office.state" (defArgs s_Office_state) (defBody s_Office_state) (defScope s_Office_state) .none kV_Office_state dc_Office_state pm_Office_state an_Office_state cd_Office_state ct_Office_state), sl_Office_state⟩)
    (hd_Office_state : PySem.W.codeIn K cd_Office_state "Office.state" = true)
    (hk_Office_state : PySem.W.keepIn K (.ref f_Office_state) = true)
    (ha_Office_holder : PySem.W.findIn K (.ref C) "holder" = some (some (.ref f_Office_holder)))
    (hi_Office_holder : PySem.W.isFn K (.ref f_Office_holder) = true)
    (hl_Office_holder : K.lookup f_Office_holder = some ⟨oc_Office_holder, od_Office_holder, .func (PySem.W.fnOf "holder" "Office.holder" (defArgs s_Office_holder) (defBody s_Office_holder) (defScope s_Office_holder) .none kV_Office_holder dc_Office_holder pm_Office_holder an_Office_holder cd_Office_holder ct_Office_holder), sl_Office_holder⟩)
    (hd_Office_holder : PySem.W.codeIn K cd_Office_holder "Office.holder" = true)
    (hk_Office_holder : PySem.W.keepIn K (.ref f_Office_holder) = true)
    (ha_Office__check_desk : PySem.W.findIn K (.ref C) "_check_desk" = some (some (.ref f_Office__check_desk)))
    (hi_Office__check_desk : PySem.W.isFn K (.ref f_Office__check_desk) = true)
    (hl_Office__check_desk : K.lookup f_Office__check_desk = some ⟨oc_Office__check_desk, od_Office__check_desk, .func (PySem.W.fnOf "_check_desk" "Office._check_desk" (defArgs s_Office__check_desk) (defBody s_Office__check_desk) (defScope s_Office__check_desk) .none kV_Office__check_desk dc_Office__check_desk pm_Office__check_desk an_Office__check_desk cd_Office__check_desk ct_Office__check_desk), sl_Office__check_desk⟩)
    (hd_Office__check_desk : PySem.W.codeIn K cd_Office__check_desk "Office._check_desk" = true)
    (hk_Office__check_desk : PySem.W.keepIn K (.ref f_Office__check_desk) = true)
    (ha_Office__check_going : PySem.W.findIn K (.ref C) "_check_going" = some (some (.ref f_Office__check_going)))
    (hi_Office__check_going : PySem.W.isFn K (.ref f_Office__check_going) = true)
    (hl_Office__check_going : K.lookup f_Office__check_going = some ⟨oc_Office__check_going, od_Office__check_going, .func (PySem.W.fnOf "_check_going" "Office._check_going" (defArgs s_Office__check_going) (defBody s_Office__check_going) (defScope s_Office__check_going) .none kV_Office__check_going dc_Office__check_going pm_Office__check_going an_Office__check_going cd_Office__check_going ct_Office__check_going), sl_Office__check_going⟩)
    (hd_Office__check_going : PySem.W.codeIn K cd_Office__check_going "Office._check_going" = true)
    (hk_Office__check_going : PySem.W.keepIn K (.ref f_Office__check_going) = true)
    (ha_Office__first_of_free : PySem.W.findIn K (.ref C) "_first_of_free" = some (some (.ref f_Office__first_of_free)))
    (hi_Office__first_of_free : PySem.W.isFn K (.ref f_Office__first_of_free) = true)
    (hl_Office__first_of_free : K.lookup f_Office__first_of_free = some ⟨oc_Office__first_of_free, od_Office__first_of_free, .func (PySem.W.fnOf "_first_of_free" "Office._first_of_free" (defArgs s_Office__first_of_free) (defBody s_Office__first_of_free) (defScope s_Office__first_of_free) .none kV_Office__first_of_free dc_Office__first_of_free pm_Office__first_of_free an_Office__first_of_free cd_Office__first_of_free ct_Office__first_of_free), sl_Office__first_of_free⟩)
    (hd_Office__first_of_free : PySem.W.codeIn K cd_Office__first_of_free "Office._first_of_free" = true)
    (hk_Office__first_of_free : PySem.W.keepIn K (.ref f_Office__first_of_free) = true)
    (ha_Office__let_go : PySem.W.findIn K (.ref C) "_let_go" = some (some (.ref f_Office__let_go)))
    (hi_Office__let_go : PySem.W.isFn K (.ref f_Office__let_go) = true)
    (hl_Office__let_go : K.lookup f_Office__let_go = some ⟨oc_Office__let_go, od_Office__let_go, .func (PySem.W.fnOf "_let_go" "Office._let_go" (defArgs s_Office__let_go) (defBody s_Office__let_go) (defScope s_Office__let_go) .none kV_Office__let_go dc_Office__let_go pm_Office__let_go an_Office__let_go cd_Office__let_go ct_Office__let_go), sl_Office__let_go⟩)
    (hd_Office__let_go : PySem.W.codeIn K cd_Office__let_go "Office._let_go" = true)
    (hk_Office__let_go : PySem.W.keepIn K (.ref f_Office__let_go) = true)
    (ha_Office__use : PySem.W.findIn K (.ref C) "_use" = some (some (.ref f_Office__use)))
    (hi_Office__use : PySem.W.isFn K (.ref f_Office__use) = true)
    (hl_Office__use : K.lookup f_Office__use = some ⟨oc_Office__use, od_Office__use, .func (PySem.W.fnOf "_use" "Office._use" (defArgs s_Office__use) (defBody s_Office__use) (defScope s_Office__use) .none kV_Office__use dc_Office__use pm_Office__use an_Office__use cd_Office__use ct_Office__use), sl_Office__use⟩)
    (hd_Office__use : PySem.W.codeIn K cd_Office__use "Office._use" = true)
    (hk_Office__use : PySem.W.keepIn K (.ref f_Office__use) = true)
    (ha_state_of : PySem.W.nsIn K mainGlobals "state_of" = some (some (.ref f_state_of)))
    (hl_state_of : K.lookup f_state_of = some ⟨oc_state_of, od_state_of, .func (PySem.W.fnOf "state_of" "state_of" (defArgs s_state_of) (defBody s_state_of) (defScope s_state_of) .none kV_state_of dc_state_of pm_state_of an_state_of cd_state_of ct_state_of), sl_state_of⟩)
    (hd_state_of : PySem.W.codeIn K cd_state_of "state_of" = true)
    (hk_state_of : PySem.W.keepIn K (.ref f_state_of) = true)
    (ha_gaps : PySem.W.nsIn K mainGlobals "gaps" = some (some (.ref f_gaps)))
    (hl_gaps : K.lookup f_gaps = some ⟨oc_gaps, od_gaps, .func (PySem.W.fnOf "gaps" "gaps" (defArgs s_gaps) (defBody s_gaps) (defScope s_gaps) .none kV_gaps dc_gaps pm_gaps an_gaps cd_gaps ct_gaps), sl_gaps⟩)
    (hd_gaps : PySem.W.codeIn K cd_gaps "gaps" = true)
    (hk_gaps : PySem.W.keepIn K (.ref f_gaps) = true)
    (ha_greatest_used : PySem.W.nsIn K mainGlobals "_greatest_used" = some (some (.ref f_greatest_used)))
    (hl_greatest_used : K.lookup f_greatest_used = some ⟨oc_greatest_used, od_greatest_used, .func (PySem.W.fnOf "_greatest_used" "_greatest_used" (defArgs s_greatest_used) (defBody s_greatest_used) (defScope s_greatest_used) .none kV_greatest_used dc_greatest_used pm_greatest_used an_greatest_used cd_greatest_used ct_greatest_used), sl_greatest_used⟩)
    (hd_greatest_used : PySem.W.codeIn K cd_greatest_used "_greatest_used" = true)
    (hk_greatest_used : PySem.W.keepIn K (.ref f_greatest_used) = true)
    (ha_l_start : PySem.W.nsIn K mainGlobals "_law_start" = some (some (.ref f_l_start)))
    (hl_l_start : K.lookup f_l_start = some ⟨oc_l_start, od_l_start, .func (PySem.W.fnOf "_law_start" "_law_start" (defArgs s_l_start) (defBody s_l_start) (defScope s_l_start) .none kV_l_start dc_l_start pm_l_start an_l_start cd_l_start ct_l_start), sl_l_start⟩)
    (hd_l_start : PySem.W.codeIn K cd_l_start "_law_start" = true)
    (hk_l_start : PySem.W.keepIn K (.ref f_l_start) = true)
    (ha_l_drawn : PySem.W.nsIn K mainGlobals "_law_drawn" = some (some (.ref f_l_drawn)))
    (hl_l_drawn : K.lookup f_l_drawn = some ⟨oc_l_drawn, od_l_drawn, .func (PySem.W.fnOf "_law_drawn" "_law_drawn" (defArgs s_l_drawn) (defBody s_l_drawn) (defScope s_l_drawn) .none kV_l_drawn dc_l_drawn pm_l_drawn an_l_drawn cd_l_drawn ct_l_drawn), sl_l_drawn⟩)
    (hd_l_drawn : PySem.W.codeIn K cd_l_drawn "_law_drawn" = true)
    (hk_l_drawn : PySem.W.keepIn K (.ref f_l_drawn) = true)
    (ha_l_same : PySem.W.nsIn K mainGlobals "_law_same" = some (some (.ref f_l_same)))
    (hl_l_same : K.lookup f_l_same = some ⟨oc_l_same, od_l_same, .func (PySem.W.fnOf "_law_same" "_law_same" (defArgs s_l_same) (defBody s_l_same) (defScope s_l_same) .none kV_l_same dc_l_same pm_l_same an_l_same cd_l_same ct_l_same), sl_l_same⟩)
    (hd_l_same : PySem.W.codeIn K cd_l_same "_law_same" = true)
    (hk_l_same : PySem.W.keepIn K (.ref f_l_same) = true)
    (ha_l_far : PySem.W.nsIn K mainGlobals "_law_far" = some (some (.ref f_l_far)))
    (hl_l_far : K.lookup f_l_far = some ⟨oc_l_far, od_l_far, .func (PySem.W.fnOf "_law_far" "_law_far" (defArgs s_l_far) (defBody s_l_far) (defScope s_l_far) .none kV_l_far dc_l_far pm_l_far an_l_far cd_l_far ct_l_far), sl_l_far⟩)
    (hd_l_far : PySem.W.codeIn K cd_l_far "_law_far" = true)
    (hk_l_far : PySem.W.keepIn K (.ref f_l_far) = true)
    (ha_l_kind : PySem.W.nsIn K mainGlobals "_law_kind" = some (some (.ref f_l_kind)))
    (hl_l_kind : K.lookup f_l_kind = some ⟨oc_l_kind, od_l_kind, .func (PySem.W.fnOf "_law_kind" "_law_kind" (defArgs s_l_kind) (defBody s_l_kind) (defScope s_l_kind) .none kV_l_kind dc_l_kind pm_l_kind an_l_kind cd_l_kind ct_l_kind), sl_l_kind⟩)
    (hd_l_kind : PySem.W.codeIn K cd_l_kind "_law_kind" = true)
    (hk_l_kind : PySem.W.keepIn K (.ref f_l_kind) = true)
    (ha_l_works : PySem.W.nsIn K mainGlobals "_law_works" = some (some (.ref f_l_works)))
    (hl_l_works : K.lookup f_l_works = some ⟨oc_l_works, od_l_works, .func (PySem.W.fnOf "_law_works" "_law_works" (defArgs s_l_works) (defBody s_l_works) (defScope s_l_works) .none kV_l_works dc_l_works pm_l_works an_l_works cd_l_works ct_l_works), sl_l_works⟩)
    (hd_l_works : PySem.W.codeIn K cd_l_works "_law_works" = true)
    (hk_l_works : PySem.W.keepIn K (.ref f_l_works) = true)
    (ha_law : PySem.W.nsIn K mainGlobals "law" = some (some (.ref f_law)))
    (hl_law : K.lookup f_law = some ⟨oc_law, od_law, .func (PySem.W.fnOf "law" "law" (defArgs s_law) (defBody s_law) (defScope s_law) .none kV_law dc_law pm_law an_law cd_law ct_law), sl_law⟩)
    (hd_law : PySem.W.codeIn K cd_law "law" = true)
    (hk_law : PySem.W.keepIn K (.ref f_law) = true)
    (pg : PySem.W.plainGet K C Str.empty = true)
    (hd : PySem.W.hasDictIn K C = true)
    (po : PySem.W.plainOver K C = true)
    (sa : PySem.W.findIn K (.ref C) "__setattr__" = some (some (.builtin "object.__setattr__")))
    (mk : PySem.W.makesIn K C = true)
    (kc : PySem.W.keepIn K (.ref C) = true)
    (hna_states : PySem.W.findIn K (.ref C) "_states" = some none)
    (hna_holders : PySem.W.findIn K (.ref C) "_holders" = some none)
    (hna_stages : PySem.W.findIn K (.ref C) "_stages" = some none)
    (hna_lent : PySem.W.findIn K (.ref C) "_lent" = some none)
    (xg_GapError : PySem.W.nsIn K mainGlobals "GapError" = some (some (.ref x_GapError)))
    (xx_GapError : PySem.W.excIn K x_GapError [.type "ValueError", .type "Exception", .type "BaseException", .type "object"] "ValueError.__new__" = true)
    (xk_GapError : PySem.W.keepIn K (.ref x_GapError) = true)
    (xb_GapError : PySem.W.subIn K (.ref x_GapError) (.type "BaseException") = some true)
    (xt_GapError : PySem.W.typeIn K (.ref x_GapError) = some (.type "type"))
    (xg_NoOffice : PySem.W.nsIn K mainGlobals "NoOffice" = some (some (.ref x_NoOffice)))
    (xx_NoOffice : PySem.W.excIn K x_NoOffice [.type "ValueError", .type "Exception", .type "BaseException", .type "object"] "ValueError.__new__" = true)
    (xk_NoOffice : PySem.W.keepIn K (.ref x_NoOffice) = true)
    (xb_NoOffice : PySem.W.subIn K (.ref x_NoOffice) (.type "BaseException") = some true)
    (xt_NoOffice : PySem.W.typeIn K (.ref x_NoOffice) = some (.type "type"))
    (xg_NoDesk : PySem.W.nsIn K mainGlobals "NoDesk" = some (some (.ref x_NoDesk)))
    (xx_NoDesk : PySem.W.excIn K x_NoDesk [.type "ValueError", .type "Exception", .type "BaseException", .type "object"] "ValueError.__new__" = true)
    (xk_NoDesk : PySem.W.keepIn K (.ref x_NoDesk) = true)
    (xb_NoDesk : PySem.W.subIn K (.ref x_NoDesk) (.type "BaseException") = some true)
    (xt_NoDesk : PySem.W.typeIn K (.ref x_NoDesk) = some (.type "type"))
    (xg_Stopped : PySem.W.nsIn K mainGlobals "Stopped" = some (some (.ref x_Stopped)))
    (xx_Stopped : PySem.W.excIn K x_Stopped [.type "ValueError", .type "Exception", .type "BaseException", .type "object"] "ValueError.__new__" = true)
    (xk_Stopped : PySem.W.keepIn K (.ref x_Stopped) = true)
    (xb_Stopped : PySem.W.subIn K (.ref x_Stopped) (.type "BaseException") = some true)
    (xt_Stopped : PySem.W.typeIn K (.ref x_Stopped) = some (.type "type"))
    (xg_NoRoom : PySem.W.nsIn K mainGlobals "NoRoom" = some (some (.ref x_NoRoom)))
    (xx_NoRoom : PySem.W.excIn K x_NoRoom [.type "ValueError", .type "Exception", .type "BaseException", .type "object"] "ValueError.__new__" = true)
    (xk_NoRoom : PySem.W.keepIn K (.ref x_NoRoom) = true)
    (xb_NoRoom : PySem.W.subIn K (.ref x_NoRoom) (.type "BaseException") = some true)
    (xt_NoRoom : PySem.W.typeIn K (.ref x_NoRoom) = some (.type "type"))
    (xg_NoCount : PySem.W.nsIn K mainGlobals "NoCount" = some (some (.ref x_NoCount)))
    (xx_NoCount : PySem.W.excIn K x_NoCount [.type "ValueError", .type "Exception", .type "BaseException", .type "object"] "ValueError.__new__" = true)
    (xk_NoCount : PySem.W.keepIn K (.ref x_NoCount) = true)
    (xb_NoCount : PySem.W.subIn K (.ref x_NoCount) (.type "BaseException") = some true)
    (xt_NoCount : PySem.W.typeIn K (.ref x_NoCount) = some (.type "type"))
    (xg_NoWord : PySem.W.nsIn K mainGlobals "NoWord" = some (some (.ref x_NoWord)))
    (xx_NoWord : PySem.W.excIn K x_NoWord [.type "ValueError", .type "Exception", .type "BaseException", .type "object"] "ValueError.__new__" = true)
    (xk_NoWord : PySem.W.keepIn K (.ref x_NoWord) = true)
    (xb_NoWord : PySem.W.subIn K (.ref x_NoWord) (.type "BaseException") = some true)
    (xt_NoWord : PySem.W.typeIn K (.ref x_NoWord) = some (.type "type"))
    (xg_Short : PySem.W.nsIn K mainGlobals "Short" = some (some (.ref x_Short)))
    (xx_Short : PySem.W.excIn K x_Short [.type "ValueError", .type "Exception", .type "BaseException", .type "object"] "ValueError.__new__" = true)
    (xk_Short : PySem.W.keepIn K (.ref x_Short) = true)
    (xb_Short : PySem.W.subIn K (.ref x_Short) (.type "BaseException") = some true)
    (xt_Short : PySem.W.typeIn K (.ref x_Short) = some (.type "type"))
    (xg_NoNumber : PySem.W.nsIn K mainGlobals "NoNumber" = some (some (.ref x_NoNumber)))
    (xx_NoNumber : PySem.W.excIn K x_NoNumber [.type "ValueError", .type "Exception", .type "BaseException", .type "object"] "ValueError.__new__" = true)
    (xk_NoNumber : PySem.W.keepIn K (.ref x_NoNumber) = true)
    (xb_NoNumber : PySem.W.subIn K (.ref x_NoNumber) (.type "BaseException") = some true)
    (xt_NoNumber : PySem.W.typeIn K (.ref x_NoNumber) = some (.type "type"))
    (xg_Twice : PySem.W.nsIn K mainGlobals "Twice" = some (some (.ref x_Twice)))
    (xx_Twice : PySem.W.excIn K x_Twice [.type "ValueError", .type "Exception", .type "BaseException", .type "object"] "ValueError.__new__" = true)
    (xk_Twice : PySem.W.keepIn K (.ref x_Twice) = true)
    (xb_Twice : PySem.W.subIn K (.ref x_Twice) (.type "BaseException") = some true)
    (xt_Twice : PySem.W.typeIn K (.ref x_Twice) = some (.type "type"))
    (xg_NotThere : PySem.W.nsIn K mainGlobals "NotThere" = some (some (.ref x_NotThere)))
    (xx_NotThere : PySem.W.excIn K x_NotThere [.type "ValueError", .type "Exception", .type "BaseException", .type "object"] "ValueError.__new__" = true)
    (xk_NotThere : PySem.W.keepIn K (.ref x_NotThere) = true)
    (xb_NotThere : PySem.W.subIn K (.ref x_NotThere) (.type "BaseException") = some true)
    (xt_NotThere : PySem.W.typeIn K (.ref x_NotThere) = some (.type "type"))
    (xg_NoWorld : PySem.W.nsIn K mainGlobals "NoWorld" = some (some (.ref x_NoWorld)))
    (xx_NoWorld : PySem.W.excIn K x_NoWorld [.type "ValueError", .type "Exception", .type "BaseException", .type "object"] "ValueError.__new__" = true)
    (xk_NoWorld : PySem.W.keepIn K (.ref x_NoWorld) = true)
    (xb_NoWorld : PySem.W.subIn K (.ref x_NoWorld) (.type "BaseException") = some true)
    (xt_NoWorld : PySem.W.typeIn K (.ref x_NoWorld) = some (.type "type"))
    (xg_NoBox : PySem.W.nsIn K mainGlobals "NoBox" = some (some (.ref x_NoBox)))
    (xx_NoBox : PySem.W.excIn K x_NoBox [.type "ValueError", .type "Exception", .type "BaseException", .type "object"] "ValueError.__new__" = true)
    (xk_NoBox : PySem.W.keepIn K (.ref x_NoBox) = true)
    (xb_NoBox : PySem.W.subIn K (.ref x_NoBox) (.type "BaseException") = some true)
    (xt_NoBox : PySem.W.typeIn K (.ref x_NoBox) = some (.type "type"))
    (ecn : PySem.W.specialIn K (.builtin "object.__class__") "__get__" = some (some (.builtin "getset_descriptor.__get__")))
    (ect : PySem.W.takesIn K (.builtin "object.__class__") = some true)
    (ehg_NoOffice : PySem.W.findIn K (.ref x_NoOffice) "__getattribute__" = some (some (.builtin "BaseException.__getattribute__")))
    (ehk_NoOffice : PySem.W.findIn K (.ref x_NoOffice) "__getattr__" = some none)
    (ehd_NoOffice : PySem.W.hasDictIn K x_NoOffice = true)
    (eha_NoOffice : PySem.W.findIn K (.ref x_NoOffice) "__class__" = some (some (.builtin "object.__class__")))
    (ehm_NoOffice : PySem.W.mroIn K x_NoOffice (.type "object") = some true)
    (e0_NoOffice : PySem.W.kitOne K (.ref x_NoOffice) (.ref x_NoOffice) = some true)
    (e1_NoOffice : PySem.W.kitOne K (.ref x_NoOffice) (.ref x_NoDesk) = some false)
    (e2_NoOffice : PySem.W.kitOne K (.ref x_NoOffice) (.ref x_NoNumber) = some false)
    (eo_NoOffice : PySem.W.kitAny K (.ref x_NoOffice) [.ref x_NoBox, .ref x_NoCount, .ref x_NoRoom, .ref x_NotThere, .ref x_NoWord, .ref x_NoWorld, .ref x_Short, .ref x_Stopped, .ref x_Twice] = some false)
    (ev_NoOffice : PySem.W.kitOne K (.ref x_NoOffice) (.type "ValueError") = some true)
    (eg_NoOffice : PySem.W.exmOne K (.ref x_NoOffice) (.ref x_GapError) = some true)
    (ehg_NoDesk : PySem.W.findIn K (.ref x_NoDesk) "__getattribute__" = some (some (.builtin "BaseException.__getattribute__")))
    (ehk_NoDesk : PySem.W.findIn K (.ref x_NoDesk) "__getattr__" = some none)
    (ehd_NoDesk : PySem.W.hasDictIn K x_NoDesk = true)
    (eha_NoDesk : PySem.W.findIn K (.ref x_NoDesk) "__class__" = some (some (.builtin "object.__class__")))
    (ehm_NoDesk : PySem.W.mroIn K x_NoDesk (.type "object") = some true)
    (e0_NoDesk : PySem.W.kitOne K (.ref x_NoDesk) (.ref x_NoOffice) = some false)
    (e1_NoDesk : PySem.W.kitOne K (.ref x_NoDesk) (.ref x_NoDesk) = some true)
    (e2_NoDesk : PySem.W.kitOne K (.ref x_NoDesk) (.ref x_NoNumber) = some false)
    (eo_NoDesk : PySem.W.kitAny K (.ref x_NoDesk) [.ref x_NoBox, .ref x_NoCount, .ref x_NoRoom, .ref x_NotThere, .ref x_NoWord, .ref x_NoWorld, .ref x_Short, .ref x_Stopped, .ref x_Twice] = some false)
    (ev_NoDesk : PySem.W.kitOne K (.ref x_NoDesk) (.type "ValueError") = some true)
    (eg_NoDesk : PySem.W.exmOne K (.ref x_NoDesk) (.ref x_GapError) = some true)
    (ehg_NoNumber : PySem.W.findIn K (.ref x_NoNumber) "__getattribute__" = some (some (.builtin "BaseException.__getattribute__")))
    (ehk_NoNumber : PySem.W.findIn K (.ref x_NoNumber) "__getattr__" = some none)
    (ehd_NoNumber : PySem.W.hasDictIn K x_NoNumber = true)
    (eha_NoNumber : PySem.W.findIn K (.ref x_NoNumber) "__class__" = some (some (.builtin "object.__class__")))
    (ehm_NoNumber : PySem.W.mroIn K x_NoNumber (.type "object") = some true)
    (e0_NoNumber : PySem.W.kitOne K (.ref x_NoNumber) (.ref x_NoOffice) = some false)
    (e1_NoNumber : PySem.W.kitOne K (.ref x_NoNumber) (.ref x_NoDesk) = some false)
    (e2_NoNumber : PySem.W.kitOne K (.ref x_NoNumber) (.ref x_NoNumber) = some true)
    (eo_NoNumber : PySem.W.kitAny K (.ref x_NoNumber) [.ref x_NoBox, .ref x_NoCount, .ref x_NoRoom, .ref x_NotThere, .ref x_NoWord, .ref x_NoWorld, .ref x_Short, .ref x_Stopped, .ref x_Twice] = some false)
    (ev_NoNumber : PySem.W.kitOne K (.ref x_NoNumber) (.type "ValueError") = some true)
    (eg_NoNumber : PySem.W.exmOne K (.ref x_NoNumber) (.ref x_GapError) = some true)
    (h9c : cd_law = .ref c9)
    (h9l : K.lookup c9 = some ⟨oc9, od9, .fields vs9, sl9⟩)
    (h9v : vs9[11]? = some (.ref P9))
    (h9h : PySem.W.codeHdIn K c9 P9 = true)
    (h9n : K.lookup P9 = none)
    (h8c : cd_l_works = .ref c8)
    (h8l : K.lookup c8 = some ⟨oc8, od8, .fields vs8, sl8⟩)
    (h8v : vs8[11]? = some (.ref P8))
    (h8h : PySem.W.codeHdIn K c8 P8 = true)
    (h8n : K.lookup P8 = none)
    (h98 : P9 ≠ P8)
    : LamX.LawAtS l w K CX0 7 63 "_law_script" mg fa h := by
  have e := hfa.symm.trans (PySem.W.mg_of X G ha_law)
  cases e
  subst h9c
  subst h8c
  have F_Office_init := fun_mk (st := s_Office_init) hl_Office_init hd_Office_init hk_Office_init
  have F_Office_lend := fun_mk (st := s_Office_lend) hl_Office_lend hd_Office_lend hk_Office_lend
  have F_Office_report := fun_mk (st := s_Office_report) hl_Office_report hd_Office_report hk_Office_report
  have F_Office_back := fun_mk (st := s_Office_back) hl_Office_back hd_Office_back hk_Office_back
  have F_Office_stop := fun_mk (st := s_Office_stop) hl_Office_stop hd_Office_stop hk_Office_stop
  have F_Office_settle := fun_mk (st := s_Office_settle) hl_Office_settle hd_Office_settle hk_Office_settle
  have F_Office_open_numbers := fun_mk (st := s_Office_open_numbers) hl_Office_open_numbers hd_Office_open_numbers hk_Office_open_numbers
  have F_Office_rest := fun_mk (st := s_Office_rest) hl_Office_rest hd_Office_rest hk_Office_rest
  have F_Office_has_rest := fun_mk (st := s_Office_has_rest) hl_Office_has_rest hd_Office_has_rest hk_Office_has_rest
  have F_Office_least_used := fun_mk (st := s_Office_least_used) hl_Office_least_used hd_Office_least_used hk_Office_least_used
  have F_Office_numbers := fun_mk (st := s_Office_numbers) hl_Office_numbers hd_Office_numbers hk_Office_numbers
  have F_Office_state := fun_mk (st := s_Office_state) hl_Office_state hd_Office_state hk_Office_state
  have F_Office_holder := fun_mk (st := s_Office_holder) hl_Office_holder hd_Office_holder hk_Office_holder
  have F_Office__check_desk := fun_mk (st := s_Office__check_desk) hl_Office__check_desk hd_Office__check_desk hk_Office__check_desk
  have F_Office__check_going := fun_mk (st := s_Office__check_going) hl_Office__check_going hd_Office__check_going hk_Office__check_going
  have F_Office__first_of_free := fun_mk (st := s_Office__first_of_free) hl_Office__first_of_free hd_Office__first_of_free hk_Office__first_of_free
  have F_Office__let_go := fun_mk (st := s_Office__let_go) hl_Office__let_go hd_Office__let_go hk_Office__let_go
  have F_Office__use := fun_mk (st := s_Office__use) hl_Office__use hd_Office__use hk_Office__use
  have F_state_of := fun_mk (st := s_state_of) hl_state_of hd_state_of hk_state_of
  have F_gaps := fun_mk (st := s_gaps) hl_gaps hd_gaps hk_gaps
  have F_greatest_used := fun_mk (st := s_greatest_used) hl_greatest_used hd_greatest_used hk_greatest_used
  have F_l_start := fun_mk (st := s_l_start) hl_l_start hd_l_start hk_l_start
  have F_l_drawn := fun_mk (st := s_l_drawn) hl_l_drawn hd_l_drawn hk_l_drawn
  have F_l_same := fun_mk (st := s_l_same) hl_l_same hd_l_same hk_l_same
  have F_l_far := fun_mk (st := s_l_far) hl_l_far hd_l_far hk_l_far
  have F_l_kind := fun_mk (st := s_l_kind) hl_l_kind hd_l_kind hk_l_kind
  have F_l_works := fun_mk (st := s_l_works) hl_l_works hd_l_works hk_l_works
  have F_law := fun_mk (st := s_law) hl_law hd_law hk_law
  let ad : Ad := { C := C, GapError := x_GapError, NoOffice := x_NoOffice, NoDesk := x_NoDesk, Stopped := x_Stopped, NoRoom := x_NoRoom, NoCount := x_NoCount, NoWord := x_NoWord, Short := x_Short, NoNumber := x_NoNumber, Twice := x_Twice, NotThere := x_NotThere, NoWorld := x_NoWorld, NoBox := x_NoBox, Office_init := f_Office_init, Office_lend := f_Office_lend, Office_report := f_Office_report, Office_back := f_Office_back, Office_stop := f_Office_stop, Office_settle := f_Office_settle, Office_open_numbers := f_Office_open_numbers, Office_rest := f_Office_rest, Office_has_rest := f_Office_has_rest, Office_least_used := f_Office_least_used, Office_numbers := f_Office_numbers, Office_state := f_Office_state, Office_holder := f_Office_holder, Office__check_desk := f_Office__check_desk, Office__check_going := f_Office__check_going, Office__first_of_free := f_Office__first_of_free, Office__let_go := f_Office__let_go, Office__use := f_Office__use, state_of := f_state_of, gaps := f_gaps, greatest_used := f_greatest_used, l_start := f_l_start, l_drawn := f_l_drawn, l_same := f_l_same, l_far := f_l_far, l_kind := f_l_kind, l_works := f_l_works, law := fa }
  let fd : Fd := { Office_init := PySem.W.fnOf "__init__" "Office.__init__" (defArgs s_Office_init) (defBody s_Office_init) (defScope s_Office_init) .none kV_Office_init dc_Office_init pm_Office_init an_Office_init cd_Office_init ct_Office_init, Office_lend := PySem.W.fnOf "lend" "Office.lend" (defArgs s_Office_lend) (defBody s_Office_lend) (defScope s_Office_lend) .none kV_Office_lend dc_Office_lend pm_Office_lend an_Office_lend cd_Office_lend ct_Office_lend, Office_report := PySem.W.fnOf "report" "Office.report" (defArgs s_Office_report) (defBody s_Office_report) (defScope s_Office_report) .none kV_Office_report dc_Office_report pm_Office_report an_Office_report cd_Office_report ct_Office_report, Office_back := PySem.W.fnOf "back" "Office.back" (defArgs s_Office_back) (defBody s_Office_back) (defScope s_Office_back) .none kV_Office_back dc_Office_back pm_Office_back an_Office_back cd_Office_back ct_Office_back, Office_stop := PySem.W.fnOf "stop" "Office.stop" (defArgs s_Office_stop) (defBody s_Office_stop) (defScope s_Office_stop) .none kV_Office_stop dc_Office_stop pm_Office_stop an_Office_stop cd_Office_stop ct_Office_stop, Office_settle := PySem.W.fnOf "settle" "Office.settle" (defArgs s_Office_settle) (defBody s_Office_settle) (defScope s_Office_settle) .none kV_Office_settle dc_Office_settle pm_Office_settle an_Office_settle cd_Office_settle ct_Office_settle, Office_open_numbers := PySem.W.fnOf "open_numbers" "Office.open_numbers" (defArgs s_Office_open_numbers) (defBody s_Office_open_numbers) (defScope s_Office_open_numbers) .none kV_Office_open_numbers dc_Office_open_numbers pm_Office_open_numbers an_Office_open_numbers cd_Office_open_numbers ct_Office_open_numbers, Office_rest := PySem.W.fnOf "rest" "Office.rest" (defArgs s_Office_rest) (defBody s_Office_rest) (defScope s_Office_rest) .none kV_Office_rest dc_Office_rest pm_Office_rest an_Office_rest cd_Office_rest ct_Office_rest, Office_has_rest := PySem.W.fnOf "has_rest" "Office.has_rest" (defArgs s_Office_has_rest) (defBody s_Office_has_rest) (defScope s_Office_has_rest) .none kV_Office_has_rest dc_Office_has_rest pm_Office_has_rest an_Office_has_rest cd_Office_has_rest ct_Office_has_rest, Office_least_used := PySem.W.fnOf "least_used" "Office.least_used" (defArgs s_Office_least_used) (defBody s_Office_least_used) (defScope s_Office_least_used) .none kV_Office_least_used dc_Office_least_used pm_Office_least_used an_Office_least_used cd_Office_least_used ct_Office_least_used, Office_numbers := PySem.W.fnOf "numbers" "Office.numbers" (defArgs s_Office_numbers) (defBody s_Office_numbers) (defScope s_Office_numbers) .none kV_Office_numbers dc_Office_numbers pm_Office_numbers an_Office_numbers cd_Office_numbers ct_Office_numbers, Office_state := PySem.W.fnOf "state" "Office.state" (defArgs s_Office_state) (defBody s_Office_state) (defScope s_Office_state) .none kV_Office_state dc_Office_state pm_Office_state an_Office_state cd_Office_state ct_Office_state, Office_holder := PySem.W.fnOf "holder" "Office.holder" (defArgs s_Office_holder) (defBody s_Office_holder) (defScope s_Office_holder) .none kV_Office_holder dc_Office_holder pm_Office_holder an_Office_holder cd_Office_holder ct_Office_holder, Office__check_desk := PySem.W.fnOf "_check_desk" "Office._check_desk" (defArgs s_Office__check_desk) (defBody s_Office__check_desk) (defScope s_Office__check_desk) .none kV_Office__check_desk dc_Office__check_desk pm_Office__check_desk an_Office__check_desk cd_Office__check_desk ct_Office__check_desk, Office__check_going := PySem.W.fnOf "_check_going" "Office._check_going" (defArgs s_Office__check_going) (defBody s_Office__check_going) (defScope s_Office__check_going) .none kV_Office__check_going dc_Office__check_going pm_Office__check_going an_Office__check_going cd_Office__check_going ct_Office__check_going, Office__first_of_free := PySem.W.fnOf "_first_of_free" "Office._first_of_free" (defArgs s_Office__first_of_free) (defBody s_Office__first_of_free) (defScope s_Office__first_of_free) .none kV_Office__first_of_free dc_Office__first_of_free pm_Office__first_of_free an_Office__first_of_free cd_Office__first_of_free ct_Office__first_of_free, Office__let_go := PySem.W.fnOf "_let_go" "Office._let_go" (defArgs s_Office__let_go) (defBody s_Office__let_go) (defScope s_Office__let_go) .none kV_Office__let_go dc_Office__let_go pm_Office__let_go an_Office__let_go cd_Office__let_go ct_Office__let_go, Office__use := PySem.W.fnOf "_use" "Office._use" (defArgs s_Office__use) (defBody s_Office__use) (defScope s_Office__use) .none kV_Office__use dc_Office__use pm_Office__use an_Office__use cd_Office__use ct_Office__use, state_of := PySem.W.fnOf "state_of" "state_of" (defArgs s_state_of) (defBody s_state_of) (defScope s_state_of) .none kV_state_of dc_state_of pm_state_of an_state_of cd_state_of ct_state_of, gaps := PySem.W.fnOf "gaps" "gaps" (defArgs s_gaps) (defBody s_gaps) (defScope s_gaps) .none kV_gaps dc_gaps pm_gaps an_gaps cd_gaps ct_gaps, greatest_used := PySem.W.fnOf "_greatest_used" "_greatest_used" (defArgs s_greatest_used) (defBody s_greatest_used) (defScope s_greatest_used) .none kV_greatest_used dc_greatest_used pm_greatest_used an_greatest_used cd_greatest_used ct_greatest_used, l_start := PySem.W.fnOf "_law_start" "_law_start" (defArgs s_l_start) (defBody s_l_start) (defScope s_l_start) .none kV_l_start dc_l_start pm_l_start an_l_start cd_l_start ct_l_start, l_drawn := PySem.W.fnOf "_law_drawn" "_law_drawn" (defArgs s_l_drawn) (defBody s_l_drawn) (defScope s_l_drawn) .none kV_l_drawn dc_l_drawn pm_l_drawn an_l_drawn cd_l_drawn ct_l_drawn, l_same := PySem.W.fnOf "_law_same" "_law_same" (defArgs s_l_same) (defBody s_l_same) (defScope s_l_same) .none kV_l_same dc_l_same pm_l_same an_l_same cd_l_same ct_l_same, l_far := PySem.W.fnOf "_law_far" "_law_far" (defArgs s_l_far) (defBody s_l_far) (defScope s_l_far) .none kV_l_far dc_l_far pm_l_far an_l_far cd_l_far ct_l_far, l_kind := PySem.W.fnOf "_law_kind" "_law_kind" (defArgs s_l_kind) (defBody s_l_kind) (defScope s_l_kind) .none kV_l_kind dc_l_kind pm_l_kind an_l_kind cd_l_kind ct_l_kind, l_works := PySem.W.fnOf "_law_works" "_law_works" (defArgs s_l_works) (defBody s_l_works) (defScope s_l_works) .none kV_l_works dc_l_works pm_l_works an_l_works (.ref c8) ct_l_works, law := PySem.W.fnOf "law" "law" (defArgs s_law) (defBody s_law) (defScope s_law) .none kV_law dc_law pm_law an_law (.ref c9) ct_law }
  have T : Txt K mg ad fd := {
    cl := ⟨pg, hd, po, sa⟩,
    na_states := hna_states,
    na_holders := hna_holders,
    na_stages := hna_stages,
    na_lent := hna_lent,
    g_Office := PySem.W.mg_of X G hC,
    mkO := ⟨mk, ha_Office_init, hi_Office_init, kc⟩,
    n_ValueError := PySem.W.mg_none_of X G hn_ValueError,
    n_bool := PySem.W.mg_none_of X G hn_bool,
    n_dict := PySem.W.mg_none_of X G hn_dict,
    n_int := PySem.W.mg_none_of X G hn_int,
    n_isinstance := PySem.W.mg_none_of X G hn_isinstance,
    n_len := PySem.W.mg_none_of X G hn_len,
    n_list := PySem.W.mg_none_of X G hn_list,
    n_max := PySem.W.mg_none_of X G hn_max,
    n_range := PySem.W.mg_none_of X G hn_range,
    n_sorted := PySem.W.mg_none_of X G hn_sorted,
    n_str := PySem.W.mg_none_of X G hn_str,
    n_tuple := PySem.W.mg_none_of X G hn_tuple,
    n_zip := PySem.W.mg_none_of X G hn_zip,
    g_MOST_NUMBERS := ⟨_, PySem.W.mg_of X G hc_MOST_NUMBERS⟩,
    g_MOST_DESKS := ⟨_, PySem.W.mg_of X G hc_MOST_DESKS⟩,
    g_FREE := ⟨_, PySem.W.mg_of X G hc_FREE⟩,
    g_OPEN := ⟨_, PySem.W.mg_of X G hc_OPEN⟩,
    g_PAPER := ⟨_, PySem.W.mg_of X G hc_PAPER⟩,
    g_SPOILT := ⟨_, PySem.W.mg_of X G hc_SPOILT⟩,
    g_USED := ⟨_, PySem.W.mg_of X G hc_USED⟩,
    g_REST := ⟨_, PySem.W.mg_of X G hc_REST⟩,
    g_GOING := ⟨_, PySem.W.mg_of X G hc_GOING⟩,
    g_STOPPED := ⟨_, PySem.W.mg_of X G hc_STOPPED⟩,
    g_SETTLED := ⟨_, PySem.W.mg_of X G hc_SETTLED⟩,
    x_GapError := ⟨xx_GapError, PySem.W.mg_of X G xg_GapError, xk_GapError, xb_GapError, xt_GapError⟩,
    x_NoOffice := ⟨xx_NoOffice, PySem.W.mg_of X G xg_NoOffice, xk_NoOffice, xb_NoOffice, xt_NoOffice⟩,
    x_NoDesk := ⟨xx_NoDesk, PySem.W.mg_of X G xg_NoDesk, xk_NoDesk, xb_NoDesk, xt_NoDesk⟩,
    x_Stopped := ⟨xx_Stopped, PySem.W.mg_of X G xg_Stopped, xk_Stopped, xb_Stopped, xt_Stopped⟩,
    x_NoRoom := ⟨xx_NoRoom, PySem.W.mg_of X G xg_NoRoom, xk_NoRoom, xb_NoRoom, xt_NoRoom⟩,
    x_NoCount := ⟨xx_NoCount, PySem.W.mg_of X G xg_NoCount, xk_NoCount, xb_NoCount, xt_NoCount⟩,
    x_NoWord := ⟨xx_NoWord, PySem.W.mg_of X G xg_NoWord, xk_NoWord, xb_NoWord, xt_NoWord⟩,
    x_Short := ⟨xx_Short, PySem.W.mg_of X G xg_Short, xk_Short, xb_Short, xt_Short⟩,
    x_NoNumber := ⟨xx_NoNumber, PySem.W.mg_of X G xg_NoNumber, xk_NoNumber, xb_NoNumber, xt_NoNumber⟩,
    x_Twice := ⟨xx_Twice, PySem.W.mg_of X G xg_Twice, xk_Twice, xb_Twice, xt_Twice⟩,
    x_NotThere := ⟨xx_NotThere, PySem.W.mg_of X G xg_NotThere, xk_NotThere, xb_NotThere, xt_NotThere⟩,
    x_NoWorld := ⟨xx_NoWorld, PySem.W.mg_of X G xg_NoWorld, xk_NoWorld, xb_NoWorld, xt_NoWorld⟩,
    x_NoBox := ⟨xx_NoBox, PySem.W.mg_of X G xg_NoBox, xk_NoBox, xb_NoBox, xt_NoBox⟩,
    F_Office_init := F_Office_init,
    b_Office_init := F_Office_init.binds (ps := ["self", "top", "desks"]) fun _ _ _ _ _ _ us hl => match us, hl with | [_, _, _], _ => rfl,
    F_Office_lend := F_Office_lend,
    b_Office_lend := F_Office_lend.binds (ps := ["self", "desk", "many"]) fun _ _ _ _ _ _ us hl => match us, hl with | [_, _, _], _ => rfl,
    m_Office_lend := ⟨ha_Office_lend, hi_Office_lend, hk_Office_lend⟩,
    F_Office_report := F_Office_report,
    b_Office_report := F_Office_report.binds (ps := ["self", "desk", "words"]) fun _ _ _ _ _ _ us hl => match us, hl with | [_, _, _], _ => rfl,
    m_Office_report := ⟨ha_Office_report, hi_Office_report, hk_Office_report⟩,
    F_Office_back := F_Office_back,
    b_Office_back := F_Office_back.binds (ps := ["self", "desk"]) fun _ _ _ _ _ _ us hl => match us, hl with | [_, _], _ => rfl,
    m_Office_back := ⟨ha_Office_back, hi_Office_back, hk_Office_back⟩,
    F_Office_stop := F_Office_stop,
    b_Office_stop := F_Office_stop.binds (ps := ["self", "desk"]) fun _ _ _ _ _ _ us hl => match us, hl with | [_, _], _ => rfl,
    m_Office_stop := ⟨ha_Office_stop, hi_Office_stop, hk_Office_stop⟩,
    F_Office_settle := F_Office_settle,
    b_Office_settle := F_Office_settle.binds (ps := ["self", "desk", "many"]) fun _ _ _ _ _ _ us hl => match us, hl with | [_, _, _], _ => rfl,
    m_Office_settle := ⟨ha_Office_settle, hi_Office_settle, hk_Office_settle⟩,
    F_Office_open_numbers := F_Office_open_numbers,
    b_Office_open_numbers := F_Office_open_numbers.binds (ps := ["self", "desk"]) fun _ _ _ _ _ _ us hl => match us, hl with | [_, _], _ => rfl,
    m_Office_open_numbers := ⟨ha_Office_open_numbers, hi_Office_open_numbers, hk_Office_open_numbers⟩,
    F_Office_rest := F_Office_rest,
    b_Office_rest := F_Office_rest.binds (ps := ["self", "desk"]) fun _ _ _ _ _ _ us hl => match us, hl with | [_, _], _ => rfl,
    m_Office_rest := ⟨ha_Office_rest, hi_Office_rest, hk_Office_rest⟩,
    F_Office_has_rest := F_Office_has_rest,
    b_Office_has_rest := F_Office_has_rest.binds (ps := ["self", "desk"]) fun _ _ _ _ _ _ us hl => match us, hl with | [_, _], _ => rfl,
    m_Office_has_rest := ⟨ha_Office_has_rest, hi_Office_has_rest, hk_Office_has_rest⟩,
    F_Office_least_used := F_Office_least_used,
    b_Office_least_used := F_Office_least_used.binds (ps := ["self", "desk"]) fun _ _ _ _ _ _ us hl => match us, hl with | [_, _], _ => rfl,
    m_Office_least_used := ⟨ha_Office_least_used, hi_Office_least_used, hk_Office_least_used⟩,
    F_Office_numbers := F_Office_numbers,
    b_Office_numbers := F_Office_numbers.binds (ps := ["self"]) fun _ _ _ _ _ _ us hl => match us, hl with | [_], _ => rfl,
    m_Office_numbers := ⟨ha_Office_numbers, hi_Office_numbers, hk_Office_numbers⟩,
    F_Office_state := F_Office_state,
    b_Office_state := F_Office_state.binds (ps := ["self", "number"]) fun _ _ _ _ _ _ us hl => match us, hl with | [_, _], _ => rfl,
    m_Office_state := ⟨ha_Office_state, hi_Office_state, hk_Office_state⟩,
    F_Office_holder := F_Office_holder,
    b_Office_holder := F_Office_holder.binds (ps := ["self", "number"]) fun _ _ _ _ _ _ us hl => match us, hl with | [_, _], _ => rfl,
    m_Office_holder := ⟨ha_Office_holder, hi_Office_holder, hk_Office_holder⟩,
    F_Office__check_desk := F_Office__check_desk,
    b_Office__check_desk := F_Office__check_desk.binds (ps := ["self", "desk"]) fun _ _ _ _ _ _ us hl => match us, hl with | [_, _], _ => rfl,
    m_Office__check_desk := ⟨ha_Office__check_desk, hi_Office__check_desk, hk_Office__check_desk⟩,
    F_Office__check_going := F_Office__check_going,
    b_Office__check_going := F_Office__check_going.binds (ps := ["self", "desk"]) fun _ _ _ _ _ _ us hl => match us, hl with | [_, _], _ => rfl,
    m_Office__check_going := ⟨ha_Office__check_going, hi_Office__check_going, hk_Office__check_going⟩,
    F_Office__first_of_free := F_Office__first_of_free,
    b_Office__first_of_free := F_Office__first_of_free.binds (ps := ["self", "many"]) fun _ _ _ _ _ _ us hl => match us, hl with | [_, _], _ => rfl,
    m_Office__first_of_free := ⟨ha_Office__first_of_free, hi_Office__first_of_free, hk_Office__first_of_free⟩,
    F_Office__let_go := F_Office__let_go,
    b_Office__let_go := F_Office__let_go.binds (ps := ["self", "number", "state"]) fun _ _ _ _ _ _ us hl => match us, hl with | [_, _, _], _ => rfl,
    m_Office__let_go := ⟨ha_Office__let_go, hi_Office__let_go, hk_Office__let_go⟩,
    F_Office__use := F_Office__use,
    b_Office__use := F_Office__use.binds (ps := ["self", "numbers"]) fun _ _ _ _ _ _ us hl => match us, hl with | [_, _], _ => rfl,
    m_Office__use := ⟨ha_Office__use, hi_Office__use, hk_Office__use⟩,
    F_state_of := F_state_of,
    b_state_of := F_state_of.binds (ps := ["office", "number"]) fun _ _ _ _ _ _ us hl => match us, hl with | [_, _], _ => rfl,
    g_state_of := PySem.W.mg_of X G ha_state_of,
    F_gaps := F_gaps,
    b_gaps := F_gaps.binds (ps := ["office"]) fun _ _ _ _ _ _ us hl => match us, hl with | [_], _ => rfl,
    g_gaps := PySem.W.mg_of X G ha_gaps,
    F_greatest_used := F_greatest_used,
    b_greatest_used := F_greatest_used.binds (ps := ["office"]) fun _ _ _ _ _ _ us hl => match us, hl with | [_], _ => rfl,
    g_greatest_used := PySem.W.mg_of X G ha_greatest_used,
    F_l_start := F_l_start,
    b_l_start := F_l_start.binds (ps := ["_law_script"]) fun _ _ _ _ _ _ us hl => match us, hl with | [_], _ => rfl,
    g_l_start := PySem.W.mg_of X G ha_l_start,
    F_l_drawn := F_l_drawn,
    b_l_drawn := F_l_drawn.binds (ps := ["_law_state", "_law_many"]) fun _ _ _ _ _ _ us hl => match us, hl with | [_, _], _ => rfl,
    g_l_drawn := PySem.W.mg_of X G ha_l_drawn,
    F_l_same := F_l_same,
    b_l_same := F_l_same.binds (ps := ["_law_found", "_law_due"]) fun _ _ _ _ _ _ us hl => match us, hl with | [_, _], _ => rfl,
    g_l_same := PySem.W.mg_of X G ha_l_same,
    F_l_far := F_l_far,
    b_l_far := F_l_far.binds (ps := ["_law_state", "_law_most"]) fun _ _ _ _ _ _ us hl => match us, hl with | [_, _], _ => rfl,
    g_l_far := PySem.W.mg_of X G ha_l_far,
    F_l_kind := F_l_kind,
    b_l_kind := F_l_kind.binds (ps := ["_law_work"]) fun _ _ _ _ _ _ us hl => match us, hl with | [_], _ => rfl,
    g_l_kind := PySem.W.mg_of X G ha_l_kind,
    F_l_works := F_l_works,
    b_l_works := F_l_works.binds (ps := ["_law_office", "_law_desk", "_law_many"]) fun _ _ _ _ _ _ us hl => match us, hl with | [_, _, _], _ => rfl,
    g_l_works := PySem.W.mg_of X G ha_l_works,
    F_law := F_law,
    b_law := F_law.binds (ps := ["_law_script"]) fun _ _ _ _ _ _ us hl => match us, hl with | [_], _ => rfl,
    g_law := PySem.W.mg_of X G ha_law }
  have kn_NoOffice : Kn3 K ad x_NoOffice 0 := ⟨by decide, lt3 e0_NoOffice e1_NoOffice e2_NoOffice, eo_NoOffice, ev_NoOffice, eg_NoOffice, ⟨ehg_NoOffice, ehk_NoOffice, xb_NoOffice, ehd_NoOffice, eha_NoOffice, ecn, ect, ehm_NoOffice⟩⟩
  have kn_NoDesk : Kn3 K ad x_NoDesk 1 := ⟨by decide, lt3 e0_NoDesk e1_NoDesk e2_NoDesk, eo_NoDesk, ev_NoDesk, eg_NoDesk, ⟨ehg_NoDesk, ehk_NoDesk, xb_NoDesk, ehd_NoDesk, eha_NoDesk, ecn, ect, ehm_NoDesk⟩⟩
  have kn_NoNumber : Kn3 K ad x_NoNumber 2 := ⟨by decide, lt3 e0_NoNumber e1_NoNumber e2_NoNumber, eo_NoNumber, ev_NoNumber, eg_NoNumber, ⟨ehg_NoNumber, ehk_NoNumber, xb_NoNumber, ehd_NoNumber, eha_NoNumber, ecn, ect, ehm_NoNumber⟩⟩
  have KN : ∀ i, i < 3 → Kn3 K ad (three ad i) i := lt3 kn_NoOffice kn_NoDesk kn_NoNumber
  have hP : h.get? P9 = some { cls := .none, data := .fields #[] } := own c9 P9 _ _ _ _ _ _ hl_law rfl rfl h9l h9v
  have hP8 : h.get? P8 = some { cls := .none, data := .fields #[] } := own8 _ (PySem.W.mg_of X G ha_l_works) c8 P8 _ _ _ _ _ _ hl_l_works rfl rfl h8l h8v
  have two : ∀ {p : Addr × Addr}, p ∈ [(c9, P9), (c8, P8)] → p = (c9, P9) ∨ p = (c8, P8) := fun {p} hp => by simpa using hp
  refine ⟨fd.law, [(c9, P9), (c8, P8)], spLaw K [(P9, lamQ), (P8, wQ)], fun p hp => ?_, fun p hp => ?_, fun p hp => ?_, fun s v => .of_eq rfl, fun H a ns hl _ hT S => ⟨a, ns, rfl, S, hl, fun p hp => ?_, fun _ => rfl⟩, fun base _ _ hB => ?_⟩
  · rcases two hp with e | e <;> rw [e]
    · exact hP
    · exact hP8
  · rcases two hp with e | e <;> rw [e]
    · exact h9n
    · exact h8n
  · rcases two hp with e | e <;> rw [e]
    · exact PySem.W.codeHd_of_K X h9h
    · exact PySem.W.codeHd_of_K X h8h
  · have hp : p = (P9, lamQ) ∨ p = (P8, wQ) := by simpa using hp
    rcases hp with e | e <;> rw [e]
    · exact LamX.TabS.nil (hT (c9, P9) (by simp))
    · exact LamX.TabS.nil (hT (c8, P8) (by simp))
  · refine ok_law (c9 := c9) (P9 := P9) (c8 := c8) (P8 := P8) T KN rfl (hB (c9, P9) List.mem_cons_self) List.mem_cons_self (fun p hp e => ?_) rfl (hB (c8, P8) (List.mem_cons_of_mem _ List.mem_cons_self)) (List.mem_cons_of_mem _ List.mem_cons_self) (fun p hp e => ?_)
    · have hp : p = (P9, lamQ) ∨ p = (P8, wQ) := by simpa using hp
      rcases hp with q | q <;> rw [q] at e ⊢
      exact absurd e.symm h98
    · have hp : p = (P9, lamQ) ∨ p = (P8, wQ) := by simpa using hp
      rcases hp with q | q <;> rw [q] at e ⊢
      exact absurd e h98
theorem walk {l : PySem.W.OpenLaw} {q : Program} {loose : List Str} {XP : (Str → Option Value) → Heap → Prop} {YP : World → Heap → Prop} {d : DefRec} {K : Params → PySem.W.Frag} (hn : l.most = some 63) (hdf : d.params.defaults = [])
    (hrec : ((recsOf q).any fun e => e.name == d.name) = true) (hrec8 : ((recsOf q).any fun e => e.name == "_law_works") = true) (hY : ∀ (w : World) (h : Heap), YP w h → (K w.params).In h)
    (F : ∀ (w : World) (mg : Str → Option Value) (fa : Addr) (h : Heap), (K w.params).In h → h.Ns mainGlobals mg → mg d.name = some (.ref fa) → LamX.OwnTab (K w.params) fa h → (∀ f8, mg "_law_works" = some (.ref f8) → LamX.OwnTab (K w.params) f8 h) → LamX.LawAtS l w (K w.params) CX0 7 63 "_law_script" mg fa h) :
    PySem.W.WalkO q loose XP YP l.row.toRowW d [] (fun f vs => PySem.call f vs) := by
  refine Att.attach_callB hn hdf fun w t0 t1 mg mb fa ob pm cd doc a us ns GG Y ho hd hcd hmg hobj hi hlen hbits hg => ?_
  have KX := hY w _ Y
  have tabs : ∀ (nm : Str) (fx : Addr), ((recsOf q).any fun e => e.name == nm) = true → mg nm = some (.ref fx) → LamX.OwnTab (K w.params) fx t1.heap := by
    intro nm fx hr hx c P o1 fd1 e dd vs1 sl k1 k2 k3 k4 k5
    obtain ⟨dL, hm, hb⟩ := List.any_eq_true.mp hr
    have hb : dL.name = nm := beq_iff_eq.mp hb
    obtain ⟨a2, o2, fd2, c2, P2, g1, g2, g3, g4, _, g5⟩ := GG.T.tab dL hm
    obtain ⟨⟨oc, vc, e1, _, e3, e4⟩, g6⟩ := g5
    rw [hb, hx] at g1
    cases g1
    rw [KX _ _ k1] at g2
    cases g2
    rw [k2] at g3
    cases g3
    rw [k3] at g4
    cases g4
    rw [KX _ _ k4] at e1
    cases e1
    cases e3
    rw [k5] at e4
    cases e4
    exact g6
  obtain ⟨fd, cs, sp, p1, p2, p3, p4, p5, p6⟩ := F w mg fa _ KX GG.T.g hmg (tabs _ _ hrec hmg) fun f8 h8 => tabs _ _ hrec8 h8
  exact LamX.law_callTs KX GG.T.g GG.T.b GG.T.builtins GG.T.nolimit hg p1 p2 p3 GG.T.bmain hobj hi (Nat.le_trans hlen (by decide)) ⟨rfl, by decide, by decide⟩ p6 p4 (fun H hH hS => p5 H a ns hlen hbits hH hS) fun _ _ _ z => z
end Nu
open PySem PySem.W PyProof.Rows in
set_option maxRecDepth 100000 in
set_option maxHeartbeats 0 in
theorem PySem.Challenge.cw_numbergaps_k01_offices_and_desks_holds : PySem.Challenge.rw_numbergaps_k01_offices_and_desks.Holds := by
  w_on; o_law; k_head; (case hw => w_witness2)
  k_fill
  refine Nu.walk (l := PySem.Challenge.rw_numbergaps_k01_offices_and_desks) rfl rfl (by first | kernel_rfl | rfl | decide +kernel) (by first | kernel_rfl | rfl | decide +kernel) (fun w h Y => by first | exact PySem.W.kIn_of Y | exact PySem.W.km_in_of Y) ?F
  case F =>
    intro w mg fa h KX G hmg own own8
    refine' Nu.all_mk KX G hmg own own8 ?hC ?hn_ValueError ?hn_bool ?hn_dict ?hn_int ?hn_isinstance ?hn_len ?hn_list ?hn_max ?hn_range ?hn_sorted ?hn_str ?hn_tuple ?hn_zip ?hc_MOST_NUMBERS ?hc_MOST_DESKS ?hc_FREE ?hc_OPEN ?hc_PAPER ?hc_SPOILT ?hc_USED ?hc_REST ?hc_GOING ?hc_STOPPED ?hc_SETTLED ?ha_Office_init ?hi_Office_init ?hl_Office_init ?hd_Office_init ?hk_Office_init ?ha_Office_lend ?hi_Office_lend ?hl_Office_lend ?hd_Office_lend ?hk_Office_lend ?ha_Office_report ?hi_Office_report ?hl_Office_report ?hd_Office_report ?hk_Office_report ?ha_Office_back ?hi_Office_back ?hl_Office_back ?hd_Office_back ?hk_Office_back ?ha_Office_stop ?hi_Office_stop ?hl_Office_stop ?hd_Office_stop ?hk_Office_stop ?ha_Office_settle ?hi_Office_settle ?hl_Office_settle ?hd_Office_settle ?hk_Office_settle ?ha_Office_open_numbers ?hi_Office_open_numbers ?hl_Office_open_numbers ?hd_Office_open_numbers ?hk_Office_open_numbers ?ha_Office_rest ?hi_Office_rest ?hl_Office_rest ?hd_Office_rest ?hk_Office_rest ?ha_Office_has_rest ?hi_Office_has_rest ?hl_Office_has_rest ?hd_Office_has_rest ?hk_Office_has_rest ?ha_Office_least_used ?hi_Office_least_used ?hl_Office_least_used ?hd_Office_least_used ?hk_Office_least_used ?ha_Office_numbers ?hi_Office_numbers ?hl_Office_numbers ?hd_Office_numbers ?hk_Office_numbers ?ha_Office_state ?hi_Office_state ?hl_Office_state ?hd_Office_state ?hk_Office_state ?ha_Office_holder ?hi_Office_holder ?hl_Office_holder ?hd_Office_holder ?hk_Office_holder ?ha_Office__check_desk ?hi_Office__check_desk ?hl_Office__check_desk ?hd_Office__check_desk ?hk_Office__check_desk ?ha_Office__check_going ?hi_Office__check_going ?hl_Office__check_going ?hd_Office__check_going ?hk_Office__check_going ?ha_Office__first_of_free ?hi_Office__first_of_free ?hl_Office__first_of_free ?hd_Office__first_of_free ?hk_Office__first_of_free ?ha_Office__let_go ?hi_Office__let_go ?hl_Office__let_go ?hd_Office__let_go ?hk_Office__let_go ?ha_Office__use ?hi_Office__use ?hl_Office__use ?hd_Office__use ?hk_Office__use ?ha_state_of ?hl_state_of ?hd_state_of ?hk_state_of ?ha_gaps ?hl_gaps ?hd_gaps ?hk_gaps ?ha_greatest_used ?hl_greatest_used ?hd_greatest_used ?hk_greatest_used ?ha_l_start ?hl_l_start ?hd_l_start ?hk_l_start ?ha_l_drawn ?hl_l_drawn ?hd_l_drawn ?hk_l_drawn ?ha_l_same ?hl_l_same ?hd_l_same ?hk_l_same ?ha_l_far ?hl_l_far ?hd_l_far ?hk_l_far ?ha_l_kind ?hl_l_kind ?hd_l_kind ?hk_l_kind ?ha_l_works ?hl_l_works ?hd_l_works ?hk_l_works ?ha_law ?hl_law ?hd_law ?hk_law ?pg ?hd ?po ?sa ?mk ?kc ?hna_states ?hna_holders ?hna_stages ?hna_lent ?xg_GapError ?xx_GapError ?xk_GapError ?xb_GapError ?xt_GapError ?xg_NoOffice ?xx_NoOffice ?xk_NoOffice ?xb_NoOffice ?xt_NoOffice ?xg_NoDesk ?xx_NoDesk ?xk_NoDesk ?xb_NoDesk ?xt_NoDesk ?xg_Stopped ?xx_Stopped ?xk_Stopped ?xb_Stopped ?xt_Stopped ?xg_NoRoom ?xx_NoRoom ?xk_NoRoom ?xb_NoRoom ?xt_NoRoom ?xg_NoCount ?xx_NoCount ?xk_NoCount ?xb_NoCount ?xt_NoCount ?xg_NoWord ?xx_NoWord ?xk_NoWord ?xb_NoWord ?xt_NoWord ?xg_Short ?xx_Short ?xk_Short ?xb_Short ?xt_Short ?xg_NoNumber ?xx_NoNumber ?xk_NoNumber ?xb_NoNumber ?xt_NoNumber ?xg_Twice ?xx_Twice ?xk_Twice ?xb_Twice ?xt_Twice ?xg_NotThere ?xx_NotThere ?xk_NotThere ?xb_NotThere ?xt_NotThere ?xg_NoWorld ?xx_NoWorld ?xk_NoWorld ?xb_NoWorld ?xt_NoWorld ?xg_NoBox ?xx_NoBox ?xk_NoBox ?xb_NoBox ?xt_NoBox ?ecn ?ect ?ehg_NoOffice ?ehk_NoOffice ?ehd_NoOffice ?eha_NoOffice ?ehm_NoOffice ?e0_NoOffice ?e1_NoOffice ?e2_NoOffice ?eo_NoOffice ?ev_NoOffice ?eg_NoOffice ?ehg_NoDesk ?ehk_NoDesk ?ehd_NoDesk ?eha_NoDesk ?ehm_NoDesk ?e0_NoDesk ?e1_NoDesk ?e2_NoDesk ?eo_NoDesk ?ev_NoDesk ?eg_NoDesk ?ehg_NoNumber ?ehk_NoNumber ?ehd_NoNumber ?eha_NoNumber ?ehm_NoNumber ?e0_NoNumber ?e1_NoNumber ?e2_NoNumber ?eo_NoNumber ?ev_NoNumber ?eg_NoNumber ?h9c ?h9l ?h9v ?h9h ?h9n ?h8c ?h8l ?h8v ?h8h ?h8n ?h98
    (case hC => k_is)
    (case hn_ValueError => k_is)
    (case hn_bool => k_is)
    (case hn_dict => k_is)
    (case hn_int => k_is)
    (case hn_isinstance => k_is)
    (case hn_len => k_is)
    (case hn_list => k_is)
    (case hn_max => k_is)
    (case hn_range => k_is)
    (case hn_sorted => k_is)
    (case hn_str => k_is)
    (case hn_tuple => k_is)
    (case hn_zip => k_is)
    (case hc_MOST_NUMBERS => k_is)
    (case hc_MOST_DESKS => k_is)
    (case hc_FREE => k_is)
    (case hc_OPEN => k_is)
    (case hc_PAPER => k_is)
    (case hc_SPOILT => k_is)
    (case hc_USED => k_is)
    (case hc_REST => k_is)
    (case hc_GOING => k_is)
    (case hc_STOPPED => k_is)
    (case hc_SETTLED => k_is)
    (case ha_Office_init => k_is)
    (case hi_Office_init => k_is)
    (case hl_Office_init => k_is)
    (case hd_Office_init => k_is)
    (case hk_Office_init => k_is)
    (case ha_Office_lend => k_is)
    (case hi_Office_lend => k_is)
    (case hl_Office_lend => k_is)
    (case hd_Office_lend => k_is)
    (case hk_Office_lend => k_is)
    (case ha_Office_report => k_is)
    (case hi_Office_report => k_is)
    (case hl_Office_report => k_is)
    (case hd_Office_report => k_is)
    (case hk_Office_report => k_is)
    (case ha_Office_back => k_is)
    (case hi_Office_back => k_is)
    (case hl_Office_back => k_is)
    (case hd_Office_back => k_is)
    (case hk_Office_back => k_is)
    (case ha_Office_stop => k_is)
    (case hi_Office_stop => k_is)
    (case hl_Office_stop => k_is)
    (case hd_Office_stop => k_is)
    (case hk_Office_stop => k_is)
    (case ha_Office_settle => k_is)
    (case hi_Office_settle => k_is)
    (case hl_Office_settle => k_is)
    (case hd_Office_settle => k_is)
    (case hk_Office_settle => k_is)
    (case ha_Office_open_numbers => k_is)
    (case hi_Office_open_numbers => k_is)
    (case hl_Office_open_numbers => k_is)
    (case hd_Office_open_numbers => k_is)
    (case hk_Office_open_numbers => k_is)
    (case ha_Office_rest => k_is)
    (case hi_Office_rest => k_is)
    (case hl_Office_rest => k_is)
    (case hd_Office_rest => k_is)
    (case hk_Office_rest => k_is)
    (case ha_Office_has_rest => k_is)
    (case hi_Office_has_rest => k_is)
    (case hl_Office_has_rest => k_is)
    (case hd_Office_has_rest => k_is)
    (case hk_Office_has_rest => k_is)
    (case ha_Office_least_used => k_is)
    (case hi_Office_least_used => k_is)
    (case hl_Office_least_used => k_is)
    (case hd_Office_least_used => k_is)
    (case hk_Office_least_used => k_is)
    (case ha_Office_numbers => k_is)
    (case hi_Office_numbers => k_is)
    (case hl_Office_numbers => k_is)
    (case hd_Office_numbers => k_is)
    (case hk_Office_numbers => k_is)
    (case ha_Office_state => k_is)
    (case hi_Office_state => k_is)
    (case hl_Office_state => k_is)
    (case hd_Office_state => k_is)
    (case hk_Office_state => k_is)
    (case ha_Office_holder => k_is)
    (case hi_Office_holder => k_is)
    (case hl_Office_holder => k_is)
    (case hd_Office_holder => k_is)
    (case hk_Office_holder => k_is)
    (case ha_Office__check_desk => k_is)
    (case hi_Office__check_desk => k_is)
    (case hl_Office__check_desk => k_is)
    (case hd_Office__check_desk => k_is)
    (case hk_Office__check_desk => k_is)
    (case ha_Office__check_going => k_is)
    (case hi_Office__check_going => k_is)
    (case hl_Office__check_going => k_is)
    (case hd_Office__check_going => k_is)
    (case hk_Office__check_going => k_is)
    (case ha_Office__first_of_free => k_is)
    (case hi_Office__first_of_free => k_is)
    (case hl_Office__first_of_free => k_is)
    (case hd_Office__first_of_free => k_is)
    (case hk_Office__first_of_free => k_is)
    (case ha_Office__let_go => k_is)
    (case hi_Office__let_go => k_is)
    (case hl_Office__let_go => k_is)
    (case hd_Office__let_go => k_is)
    (case hk_Office__let_go => k_is)
    (case ha_Office__use => k_is)
    (case hi_Office__use => k_is)
    (case hl_Office__use => k_is)
    (case hd_Office__use => k_is)
    (case hk_Office__use => k_is)
    (case ha_state_of => k_is)
    (case hl_state_of => k_is)
    (case hd_state_of => k_is)
    (case hk_state_of => k_is)
    (case ha_gaps => k_is)
    (case hl_gaps => k_is)
    (case hd_gaps => k_is)
    (case hk_gaps => k_is)
    (case ha_greatest_used => k_is)
    (case hl_greatest_used => k_is)
    (case hd_greatest_used => k_is)
    (case hk_greatest_used => k_is)
    (case ha_l_start => k_is)
    (case hl_l_start => k_is)
    (case hd_l_start => k_is)
    (case hk_l_start => k_is)
    (case ha_l_drawn => k_is)
    (case hl_l_drawn => k_is)
    (case hd_l_drawn => k_is)
    (case hk_l_drawn => k_is)
    (case ha_l_same => k_is)
    (case hl_l_same => k_is)
    (case hd_l_same => k_is)
    (case hk_l_same => k_is)
    (case ha_l_far => k_is)
    (case hl_l_far => k_is)
    (case hd_l_far => k_is)
    (case hk_l_far => k_is)
    (case ha_l_kind => k_is)
    (case hl_l_kind => k_is)
    (case hd_l_kind => k_is)
    (case hk_l_kind => k_is)
    (case ha_l_works => k_is)
    (case hl_l_works => k_is)
    (case hd_l_works => k_is)
    (case hk_l_works => k_is)
    (case ha_law => k_is)
    (case hl_law => k_is)
    (case hd_law => k_is)
    (case hk_law => k_is)
    (case pg => k_is)
    (case hd => k_is)
    (case po => k_is)
    (case sa => k_is)
    (case mk => k_is)
    (case kc => k_is)
    (case hna_states => k_is)
    (case hna_holders => k_is)
    (case hna_stages => k_is)
    (case hna_lent => k_is)
    (case xg_GapError => k_is)
    (case xx_GapError => k_exc)
    (case xk_GapError => k_is)
    (case xb_GapError => k_is)
    (case xt_GapError => k_is)
    (case xg_NoOffice => k_is)
    (case xx_NoOffice => k_exc)
    (case xk_NoOffice => k_is)
    (case xb_NoOffice => k_is)
    (case xt_NoOffice => k_is)
    (case xg_NoDesk => k_is)
    (case xx_NoDesk => k_exc)
    (case xk_NoDesk => k_is)
    (case xb_NoDesk => k_is)
    (case xt_NoDesk => k_is)
    (case xg_Stopped => k_is)
    (case xx_Stopped => k_exc)
    (case xk_Stopped => k_is)
    (case xb_Stopped => k_is)
    (case xt_Stopped => k_is)
    (case xg_NoRoom => k_is)
    (case xx_NoRoom => k_exc)
    (case xk_NoRoom => k_is)
    (case xb_NoRoom => k_is)
    (case xt_NoRoom => k_is)
    (case xg_NoCount => k_is)
    (case xx_NoCount => k_exc)
    (case xk_NoCount => k_is)
    (case xb_NoCount => k_is)
    (case xt_NoCount => k_is)
    (case xg_NoWord => k_is)
    (case xx_NoWord => k_exc)
    (case xk_NoWord => k_is)
    (case xb_NoWord => k_is)
    (case xt_NoWord => k_is)
    (case xg_Short => k_is)
    (case xx_Short => k_exc)
    (case xk_Short => k_is)
    (case xb_Short => k_is)
    (case xt_Short => k_is)
    (case xg_NoNumber => k_is)
    (case xx_NoNumber => k_exc)
    (case xk_NoNumber => k_is)
    (case xb_NoNumber => k_is)
    (case xt_NoNumber => k_is)
    (case xg_Twice => k_is)
    (case xx_Twice => k_exc)
    (case xk_Twice => k_is)
    (case xb_Twice => k_is)
    (case xt_Twice => k_is)
    (case xg_NotThere => k_is)
    (case xx_NotThere => k_exc)
    (case xk_NotThere => k_is)
    (case xb_NotThere => k_is)
    (case xt_NotThere => k_is)
    (case xg_NoWorld => k_is)
    (case xx_NoWorld => k_exc)
    (case xk_NoWorld => k_is)
    (case xb_NoWorld => k_is)
    (case xt_NoWorld => k_is)
    (case xg_NoBox => k_is)
    (case xx_NoBox => k_exc)
    (case xk_NoBox => k_is)
    (case xb_NoBox => k_is)
    (case xt_NoBox => k_is)
    (case ecn => k_is)
    (case ect => k_is)
    (case ehg_NoOffice => k_is)
    (case ehk_NoOffice => k_is)
    (case ehd_NoOffice => k_is)
    (case eha_NoOffice => k_is)
    (case ehm_NoOffice => k_is)
    (case e0_NoOffice => kit_is)
    (case e1_NoOffice => kit_is)
    (case e2_NoOffice => kit_is)
    (case eo_NoOffice => kit_is)
    (case ev_NoOffice => kit_is)
    (case eg_NoOffice => kts_exm)
    (case ehg_NoDesk => k_is)
    (case ehk_NoDesk => k_is)
    (case ehd_NoDesk => k_is)
    (case eha_NoDesk => k_is)
    (case ehm_NoDesk => k_is)
    (case e0_NoDesk => kit_is)
    (case e1_NoDesk => kit_is)
    (case e2_NoDesk => kit_is)
    (case eo_NoDesk => kit_is)
    (case ev_NoDesk => kit_is)
    (case eg_NoDesk => kts_exm)
    (case ehg_NoNumber => k_is)
    (case ehk_NoNumber => k_is)
    (case ehd_NoNumber => k_is)
    (case eha_NoNumber => k_is)
    (case ehm_NoNumber => k_is)
    (case e0_NoNumber => kit_is)
    (case e1_NoNumber => kit_is)
    (case e2_NoNumber => kit_is)
    (case eo_NoNumber => kit_is)
    (case ev_NoNumber => kit_is)
    (case eg_NoNumber => kts_exm)
    (case h9c => rfl)
    (case h9l => k_is)
    (case h9v => rfl)
    (case h9h => first | kernel_rfl | rfl | decide +kernel)
    (case h9n => first | kernel_rfl | rfl | decide +kernel)
    (case h8c => rfl)
    (case h8l => k_is)
    (case h8v => rfl)
    (case h8h => first | kernel_rfl | rfl | decide +kernel)
    (case h8n => first | kernel_rfl | rfl | decide +kernel)
    (case h98 => first | decide | decide +kernel)
