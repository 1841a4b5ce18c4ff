/-
  The contracts of marks and begin.
-/
import Derived.Test.YtdnegfjddpdmhaaDoorPgM
import Derived.Test.YtdnegfjddpdmhaaDoorChecked
import Derived.Lib.Hide
namespace Go.Proofs.YtdnegfjddpdmhaaDoor
open Go.RowKit Go.Lib

theorem cells_at {l : List Int} {k : Nat} (hk : k < l.length) : (cells l)[k]? = some (.int .u8 l[k]) := by simp [cells, hk]

/-- 256 cells or more from an address on hold bytes of which the first tells how many marks there are -/
structure PAt (w : World) (B : Nat) (g : Nat) (c : Nat) (p : List Int) (n : Nat) : Prop where
  rd : Rd w B (some ⟨g, 0, none⟩) 256 (cells p)
  cap : 256 ≤ c
  top : c ≤ maxLen
  len : p.length = 256
  byt : IsBytes p
  head : p[0]? = some (n : Int)
section
variable {w w' : World} {B g c n : Nat} {p : List Int}
theorem PAt.n_le (h : PAt w B g c p n) : n ≤ 255 := by
  have := h.byt _ (List.mem_of_getElem? h.head)
  omega
theorem PAt.cell (h : PAt w B g c p n) {k : Nat} (hk : k < 256) : w.cell? ⟨g, k, none⟩ = some (.int .u8 (p[k]'(by rw [h.len]; exact hk))) := by
  obtain ⟨ad', u, e, _, hu, hc⟩ := h.rd.at_ hk
  obtain rfl := Option.some.inj e
  rw [cells_at (by rw [h.len]; exact hk)] at hu
  rw [Addr.add_lit, Nat.zero_add] at hc
  rw [hc, ← Option.some.inj hu]
theorem PAt.first (h : PAt w B g c p n) : w.cell? ⟨g, 0, none⟩ = some (.int .u8 (n : Int)) := by
  have h1 := h.cell (k := 0) (by omega)
  have h2 : p[0]'(by rw [h.len]; omega) = (n : Int) := (List.getElem?_eq_some_iff.1 h.head).2
  rw [h2] at h1
  exact h1
theorem PAt.below (h : PAt w B g c p n) {C : Nat} (hb : Below C w w') (hC : B ≤ C) : PAt w' B g c p n := { h with rd := h.rd.below hb hC }
theorem PAt.drewN (h : PAt w B g c p n) (k : Nat) : PAt (w.drewN k) B g c p n := { h with rd := h.rd.drewN k }
/-- the marks -/
def mkL (p : List Int) (n : Nat) : List Int := (p.drop 1).take n
theorem PAt.mk_len (h : PAt w B g c p n) : (mkL p n).length = n := by
  have := h.n_le
  have := h.len
  simp [mkL]; omega
theorem PAt.mk_bytes (h : PAt w B g c p n) : IsBytes (mkL p n) := (h.byt.drop 1).take n
theorem PAt.marks (h : PAt w B g c p n) : Rd w B (some ⟨g, 1, none⟩) n (cells (mkL p n)) := by
  have h1 := (h.rd.cutl (k := 1) (cap := c) (by omega) h.cap).cuth (k := n) (by have := h.n_le; omega)
  have hc := h.cap
  rw [if_neg (by omega)] at h1
  rw [show cells (mkL p n) = ((cells p).drop 1).take n by simp [mkL, cells]]
  simpa [Addr.add_lit] using h1
theorem PAt.of_pg {s : List Slot} (hp : IsPg p s) (hr : Rd w B (some ⟨g, 0, none⟩) 256 (cells p)) (h1 : 256 ≤ c) (h2 : c ≤ maxLen) : PAt w B g c p s.length :=
  ⟨hr, h1, h2, hp.len, hp.bytes, hp.head⟩
end

set_option maxRecDepth 100000 in
set_option maxHeartbeats 800000 in
theorem marks_any (w : World) (B : Nat) (g c : Nat) (p : List Int) (n : Nat) (h : PAt w B g c p n) :
    Calls Tryd.prog 65 #[.slice (some ⟨g, 0, none⟩) 256 c] w fun e w' => e = .returned (.slice (some ⟨g, 1, none⟩) n (c - 1)) ∧ w' = w := by
  have hf := h.first
  have hn := h.n_le
  have hc := h.cap
  have hc1 : ¬ c = 1 := by omega
  clear h
  go_enter Tryd.func65, Tryd.ntmps65
  go_wp2
  go_ret
  rw [show 1 + n - 1 = n by omega]
  exact ⟨rfl, rfl⟩

theorem sum_take_succ {l : List Int} {k : Nat} (hk : k < l.length) : sumN (l.take (k + 1)) = sumN (l.take k) + (l[k] - 1).toNat := by
  rw [List.take_succ_eq_append_getElem hk, sum_append]
  simp [sumN]
theorem sum_le {l : List Int} (h : IsBytes l) : sumN l ≤ l.length * 254 := by
  induction l with
  | nil => simp [sumN]
  | cons m l ih =>
    have hm := h m (by simp)
    have := ih fun x hx => h x (by simp [hx])
    simp only [sumN, List.length_cons]
    omega

/-- how far the loop is: at, the place -/
def BgRel (l : List Int) (at' i : Value) : Prop := ∃ k : Nat, k ≤ l.length ∧ i = .int .i64 k ∧ at' = .int .i64 (256 - (sumN (l.take k) : Nat))

set_option maxRecDepth 100000 in
set_option maxHeartbeats 1600000 in
theorem begin_any (w : World) (B : Nat) (g c : Nat) (p : List Int) (n : Nat) (h : PAt w B g c p n) (k : Nat) (hk : k ≤ 1000) :
    Calls Tryd.prog 69 #[.slice (some ⟨g, 0, none⟩) 256 c, .int .i64 k] w fun e w' => e = .returned (.int .i64 (256 - (sumN ((mkL p n).take k) : Nat))) ∧ w' = w := by
  have hl := h.mk_len
  have hn := h.n_le
  have hc := h.cap
  have hr := h.marks.cuth (k := min k n) (by omega)
  have hb := h.mk_bytes.take k
  rw [show (cells (mkL p n)).take (min k n) = cells ((mkL p n).take k) by have h9 := List.take_eq_take_min (l := mkL p n) (i := k); rw [hl] at h9; rw [h9]; simp [cells]] at hr
  have hl2 : ((mkL p n).take k).length = min k n := by rw [List.length_take, hl]
  obtain ⟨l, hle⟩ : ∃ l, l = (mkL p n).take k := ⟨_, rfl⟩
  rw [← hle] at hr hb hl2 ⊢
  have hk0 : (0 : Int) ≤ (k : Int) := Int.natCast_nonneg _
  have HM := Lib.hid (marks_any w B g c p n h)
  clear h
  by_cases hlt : n < k
  · have hmn : min k n = n := by omega
    have hlt1 : (n : Int) < (k : Int) := by omega
    rw [hmn] at hr hl2
    have HR := Lib.hid hr
    have HB := Lib.hid hb
    clear hr hb hle hl hmn
    go_enter Tryd.func69, Tryd.ntmps69
    go_wp2_with (go_at_call 65; refine HM.out.mono ?_; rintro e w' ⟨rfl, rfl⟩)
    go_loop [5, 18] (fun a i => BgRel l a i) (fun _ i => l.length - (intOf i).toNat)
    case atStart => exact ⟨0, by omega, rfl, rfl⟩
    case round =>
      obtain ⟨j, hj, rfl, rfl⟩ := hrel
      have hj0 : (0 : Int) ≤ (j : Int) := Int.natCast_nonneg _
      by_cases hjl : j < l.length
      · have hj1 : (j : Int) < (n : Int) := by omega
        have hjm : j < n := by omega
        obtain ⟨ad', u, e1, _, hu, hcc⟩ := HR.out.at_ hjm
        obtain rfl := Option.some.inj e1
        rw [Addr.add_lit] at hcc
        rw [cells_at hjl] at hu
        obtain rfl := Option.some.inj hu
        have hs := sum_take_succ hjl
        have hx := HB.out _ (List.getElem_mem hjl)
        have hsl := sum_le (HB.out.take j)
        rw [List.length_take] at hsl
        obtain ⟨x, hxe⟩ : ∃ x, x = l[j] := ⟨_, rfl⟩
        rw [← hxe] at hcc hs hx
        obtain ⟨q, hq⟩ : ∃ q, q = sumN (l.take j) := ⟨_, rfl⟩
        rw [← hq] at hs hsl ⊢
        have HS := Lib.hid hs
        clear hu e1 hxe hq hs
        by_cases hx0 : x = 0
        · subst hx0
          have HS2 := Lib.hid (show sumN (l.take (j + 1)) = q by have := HS.out; omega)
          go_wp2
          exact ⟨⟨j + 1, by omega, by go_num, by rw [HS2.out]⟩, by simp [intOf]; omega⟩
        · have HS2 := Lib.hid (show (256 : Int) - ((sumN (l.take (j + 1)) : Nat) : Int) = 256 - (q : Int) - (x - 1) by have := HS.out; omega)
          go_wp2
          exact ⟨⟨j + 1, by omega, by go_num, by rw [HS2.out]⟩, by simp [intOf]; omega⟩
      · have hjl1 : ¬ ((j : Int) < (n : Int)) := by omega
        rw [List.take_of_length_le (by omega)]
        go_wp2
        go_ret
        exact ⟨rfl, rfl⟩
  · have hmn : min k n = k := by omega
    have hlt1 : ¬ (n : Int) < (k : Int) := by omega
    rw [hmn] at hr hl2
    have HR := Lib.hid hr
    have HB := Lib.hid hb
    clear hr hb hle hl hmn
    go_enter Tryd.func69, Tryd.ntmps69
    go_wp2_with (go_at_call 65; refine HM.out.mono ?_; rintro e w' ⟨rfl, rfl⟩)
    go_loop [5, 18] (fun a i => BgRel l a i) (fun _ i => l.length - (intOf i).toNat)
    case atStart => exact ⟨0, by omega, rfl, rfl⟩
    case round =>
      obtain ⟨j, hj, rfl, rfl⟩ := hrel
      have hj0 : (0 : Int) ≤ (j : Int) := Int.natCast_nonneg _
      by_cases hjl : j < l.length
      · have hj1 : (j : Int) < (k : Int) := by omega
        have hjm : j < k := by omega
        obtain ⟨ad', u, e1, _, hu, hcc⟩ := HR.out.at_ hjm
        obtain rfl := Option.some.inj e1
        rw [Addr.add_lit] at hcc
        rw [cells_at hjl] at hu
        obtain rfl := Option.some.inj hu
        have hs := sum_take_succ hjl
        have hx := HB.out _ (List.getElem_mem hjl)
        have hsl := sum_le (HB.out.take j)
        rw [List.length_take] at hsl
        obtain ⟨x, hxe⟩ : ∃ x, x = l[j] := ⟨_, rfl⟩
        rw [← hxe] at hcc hs hx
        obtain ⟨q, hq⟩ : ∃ q, q = sumN (l.take j) := ⟨_, rfl⟩
        rw [← hq] at hs hsl ⊢
        have HS := Lib.hid hs
        clear hu e1 hxe hq hs
        by_cases hx0 : x = 0
        · subst hx0
          have HS2 := Lib.hid (show sumN (l.take (j + 1)) = q by have := HS.out; omega)
          go_wp2
          exact ⟨⟨j + 1, by omega, by go_num, by rw [HS2.out]⟩, by simp [intOf]; omega⟩
        · have HS2 := Lib.hid (show (256 : Int) - ((sumN (l.take (j + 1)) : Nat) : Int) = 256 - (q : Int) - (x - 1) by have := HS.out; omega)
          go_wp2
          exact ⟨⟨j + 1, by omega, by go_num, by rw [HS2.out]⟩, by simp [intOf]; omega⟩
      · have hjl1 : ¬ ((j : Int) < (k : Int)) := by omega
        rw [List.take_of_length_le (by omega)]
        go_wp2
        go_ret
        exact ⟨rfl, rfl⟩

#print axioms begin_any
end Go.Proofs.YtdnegfjddpdmhaaDoor
