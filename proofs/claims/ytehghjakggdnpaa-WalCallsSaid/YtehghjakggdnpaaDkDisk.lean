/-
  A disk in memory, and what it is as plain data; the contracts of has, Size, Pending.
-/
import Derived.Test.YtehghjakggdnpaaDkBytes
import Derived.Deep.RegionHeld3
namespace Go.Proofs.Ytehghjakggdnpaa
open Go.RowKit Go.Lib

/-- what a disk is: what lasts, and what was written since -/
structure DS where
  last : List (List Int)
  wr : List (Nat × List Int)

structure DS.Ok (s : DS) : Prop where
  pos : 1 ≤ s.last.length
  le : s.last.length ≤ 65536
  len : ∀ b ∈ s.last, b.length = 64
  wlen : ∀ p ∈ s.wr, p.1 < s.last.length ∧ p.2.length = 64
  wfew : s.wr.length ≤ 1000000

theorem snoc_ind {α : Type} {P : List α → Prop} (h0 : P []) (h1 : ∀ l a, P l → P (l ++ [a])) : ∀ l, P l := by
  intro l
  rw [← List.reverse_reverse l]
  induction l.reverse with
  | nil => exact h0
  | cons a l ih => rw [List.reverse_cons]; exact h1 _ _ ih

/-- the last write to sector s -/
def lastWr (wr : List (Nat × List Int)) (s : Nat) : Option (List Int) := wr.foldl (fun o p => if p.1 = s then some p.2 else o) none
theorem lastWr_snoc (wr : List (Nat × List Int)) (p : Nat × List Int) (s : Nat) : lastWr (wr ++ [p]) s = if p.1 = s then some p.2 else lastWr wr s := by simp [lastWr, List.foldl_append]
theorem lastWr_mem {wr : List (Nat × List Int)} {s : Nat} {b : List Int} (h : lastWr wr s = some b) : ∃ p ∈ wr, p.1 = s ∧ p.2 = b := by
  revert h
  refine snoc_ind (P := fun wr => lastWr wr s = some b → ∃ p ∈ wr, p.1 = s ∧ p.2 = b) ?_ ?_ wr
  · intro h; simp [lastWr] at h
  · intro wr p ih h
    rw [lastWr_snoc] at h
    split at h
    · injection h with h
      exact ⟨p, by simp, by assumption, h⟩
    · obtain ⟨q, hq, h1⟩ := ih h
      exact ⟨q, by simp [hq], h1⟩

/-- what sector k reads as -/
def DS.read (s : DS) (k : Nat) : List Int := (lastWr s.wr k).getD (s.last.getD k [])
theorem DS.Ok.read_len {s : DS} (h : s.Ok) {k : Nat} (hk : k < s.last.length) : (s.read k).length = 64 := by
  unfold DS.read
  cases hl : lastWr s.wr k with
  | none => simp only [Option.getD_none, List.getD_eq_getElem?_getD, List.getElem?_eq_getElem hk, Option.getD_some]; exact h.len _ (List.getElem_mem hk)
  | some b =>
    obtain ⟨p, hp, _, rfl⟩ := lastWr_mem hl
    exact (h.wlen p hp).2
/-- sector k is written -/
def DS.write (s : DS) (k : Nat) (b : List Int) : DS := { s with wr := s.wr ++ [(k, b)] }
/-- the first m writes last -/
def lay (L : List (List Int)) (wr : List (Nat × List Int)) : List (List Int) := wr.foldl (fun L p => L.set p.1 p.2) L
theorem lay_len (wr : List (Nat × List Int)) : ∀ L, (lay L wr).length = L.length := by
  induction wr with
  | nil => intro L; rfl
  | cons p wr ih => intro L; simp only [lay, List.foldl_cons] at ih ⊢; rw [ih]; simp
theorem lay_snoc (L : List (List Int)) (wr : List (Nat × List Int)) (p : Nat × List Int) : lay L (wr ++ [p]) = (lay L wr).set p.1 p.2 := by simp [lay, List.foldl_append]
theorem lay_all {L : List (List Int)} {wr : List (Nat × List Int)} (hL : ∀ b ∈ L, b.length = 64) (hw : ∀ p ∈ wr, p.2.length = 64) : ∀ b ∈ lay L wr, b.length = 64 := by
  revert hw
  refine snoc_ind (P := fun wr => (∀ p ∈ wr, p.2.length = 64) → ∀ b ∈ lay L wr, b.length = 64) (fun _ => hL) ?_ wr
  · intro wr p ih hw
    rw [lay_snoc]
    intro b hb
    rcases List.mem_or_eq_of_mem_set hb with hb | rfl
    · exact ih (fun q hq => hw q (by simp [hq])) b hb
    · exact hw p (by simp)
/-- the bytes of a sector that was torn -/
def tear (old new : List Int) (t : Nat) : List Int := new.take t ++ old.drop t
def clampN (n : Int) (m : Nat) : Nat := min n.toNat m
def DS.crash (s : DS) (keep torn : Int) : DS :=
  let k := clampN keep s.wr.length
  let L := lay s.last (s.wr.take k)
  { last := match s.wr[k]? with
      | some p => L.set p.1 (tear (L.getD p.1 []) p.2 (clampN torn 64))
      | none => L
    wr := [] }

def wcell (p : Nat × List Int) : List Value := .int .i64 p.1 :: cells p.2
/-- the map's element at a key -/
def cached (s : DS) (k : Int) : Option Value := if 0 ≤ k then (lastWr s.wr k.toNat).map (fun b => .agg (cells b).toArray) else none

/-- block g is a disk that is s; its blocks are among F -/
def DiskAt (w : World) (g : Nat) (F : Nat → Prop) (s : DS) : Prop :=
  ∃ gl gm W, Blk w g 83 #[.slice (some ⟨gl, 0, none⟩) s.last.length s.last.length, .map (some gm), W] ∧
    Blk w gl 85 (Rows' (s.last.map cells)).toArray ∧ IMap Try.prog 3 w gm s.wr.length (cached s) ∧ w.ownsRow 0 87 65 W s.wr.length (Rows' (s.wr.map wcell)) ∧
    F g ∧ F gl ∧ F gm ∧ (∀ k, W.ownBlock = some k → F k) ∧ (∀ k, F k → k < w.heap.size) ∧ s.Ok

section
variable {w w' : World} {g : Nat} {F G : Nat → Prop} {s : DS}
theorem DiskAt.ok (h : DiskAt w g F s) : s.Ok := by obtain ⟨_, _, _, _, _, _, _, _, _, _, _, _, h⟩ := h; exact h
theorem DiskAt.foot (h : DiskAt w g F s) : ∀ k, F k → k < w.heap.size := by obtain ⟨_, _, _, _, _, _, _, _, _, _, _, h, _⟩ := h; exact h
theorem DiskAt.keep (h : DiskAt w g F s) (hk : ∀ k, F k → w'.heap[k]? = w.heap[k]?) (hs : w.heap.size ≤ w'.heap.size) : DiskAt w' g F s := by
  obtain ⟨gl, gm, W, h1, h2, h3, h4, f1, f2, f3, f4, f5, h6⟩ := h
  exact ⟨gl, gm, W, (hk g f1).trans h1, (hk gl f2).trans h2, h3.keep (hk gm f3), own_keep h4 fun k hv => hk k (f4 k hv), f1, f2, f3, f4, fun k hf => Nat.lt_of_lt_of_le (f5 k hf) hs, h6⟩
theorem DiskAt.chg (h : DiskAt w g F s) (hc : Chg G w w') (hn : ∀ k, F k → ¬ G k) : DiskAt w' g F s := h.keep (fun k hf => hc.block k (h.foot k hf) (hn k hf)) hc.size
theorem DiskAt.below (h : DiskAt w g F s) (hb : Below w.heap.size w w') : DiskAt w' g F s := h.keep (fun k hf => hb.block k (h.foot k hf)) hb.size
theorem DiskAt.lt (h : DiskAt w g F s) : g < w.heap.size := by obtain ⟨_, _, _, h1, _⟩ := h; exact h1.lt
end

theorem cells_all (L : List (List Int)) (h : ∀ b ∈ L, b.length = 64) : ∀ x ∈ L.map cells, x.length = 64 := by
  intro x hx
  obtain ⟨b, hb, rfl⟩ := List.mem_map.1 hx
  rw [cells_len]; exact h b hb
theorem wcells_all (L : List (Nat × List Int)) (h : ∀ p ∈ L, p.2.length = 64) : ∀ x ∈ L.map wcell, x.length = 65 := by
  intro x hx
  obtain ⟨b, hb, rfl⟩ := List.mem_map.1 hx
  simp only [wcell, List.length_cons, cells_len, h b hb]
theorem one_cells (l : List Int) : ∀ v ∈ cells l, v.oneCell' = true := cells_one l

theorem has_yes {w : World} {g : Nat} {F : Nat → Prop} {s : DS} (h : DiskAt w g F s) (k : Int) (h0 : 0 ≤ k) (h1 : k < s.last.length) :
    Calls Try.prog 72 #[.pointer (some ⟨g, 0, none⟩), .int .i64 k] w fun e w' => e = .returned (.bool true) ∧ w = w' := by
  obtain ⟨gl, gm, W, hb, _, _, _, _, _, _, _, _, _⟩ := h
  have c0 := hb.cell 0
  simp only [List.getElem?_toArray, List.getElem?_cons_zero] at c0
  clear hb
  go_enter Try.func72, Try.ntmps72
  go_wp2
  go_ret
  exact ⟨rfl, rfl⟩

theorem has_no {w : World} {g : Nat} {F : Nat → Prop} {s : DS} (h : DiskAt w g F s) (k : Int) (h0 : ¬ (0 ≤ k ∧ k < s.last.length)) :
    Calls Try.prog 72 #[.pointer (some ⟨g, 0, none⟩), .int .i64 k] w fun e w' => e = .returned (.bool false) ∧ w = w' := by
  obtain ⟨gl, gm, W, hb, _, _, _, _, _, _, _, _, _⟩ := h
  have c0 := hb.cell 0
  simp only [List.getElem?_toArray, List.getElem?_cons_zero] at c0
  clear hb
  by_cases hk : 0 ≤ k
  · have h1 : ¬ (k < s.last.length) := fun e => h0 ⟨hk, e⟩
    clear h0
    go_enter Try.func72, Try.ntmps72
    go_wp2
    go_ret
    exact ⟨rfl, rfl⟩
  · clear h0
    go_enter Try.func72, Try.ntmps72
    go_wp2
    go_ret
    exact ⟨rfl, rfl⟩

theorem size_any {w : World} {g : Nat} {F : Nat → Prop} {s : DS} (h : DiskAt w g F s) :
    Calls Try.prog 36 #[.pointer (some ⟨g, 0, none⟩)] w fun e w' => e = .returned (.int .i64 s.last.length) ∧ w = w' := by
  obtain ⟨gl, gm, W, hb, _, _, _, _, _, _, _, _, _⟩ := h
  have c0 := hb.cell 0
  simp only [List.getElem?_toArray, List.getElem?_cons_zero] at c0
  clear hb
  go_enter Try.func36, Try.ntmps36
  go_wp2
  go_ret
  exact ⟨rfl, rfl⟩

theorem pending_any {w : World} {g : Nat} {F : Nat → Prop} {s : DS} (h : DiskAt w g F s) :
    Calls Try.prog 30 #[.pointer (some ⟨g, 0, none⟩)] w fun e w' => e = .returned (.int .i64 s.wr.length) ∧ w = w' := by
  obtain ⟨gl, gm, W, hb, _, _, ho, _, _, _, _, _, _⟩ := h
  have c0 := hb.cell 2
  rcases ho.2 with ⟨rfl, hn⟩ | ⟨gw, cap, cur, rfl, _⟩
  · simp only [List.getElem?_toArray, List.getElem?_cons_zero, List.getElem?_cons_succ] at c0
    clear hb ho
    have HN := Lib.hid hn
    clear hn
    go_enter Try.func30, Try.ntmps30
    go_wp2
    go_ret
    exact ⟨by rw [HN.out]; rfl, rfl⟩
  · simp only [List.getElem?_toArray, List.getElem?_cons_zero, List.getElem?_cons_succ] at c0
    clear hb ho
    go_enter Try.func30, Try.ntmps30
    go_wp2
    go_ret
    exact ⟨rfl, rfl⟩

end Go.Proofs.Ytehghjakggdnpaa
