/-
  What WalSwitch puts together of two images, loaded and opened.
-/
import Derived.Test.YtehghjakggdnpaaWSwL
namespace Go.Proofs.Ytehghjakggdnpaa
open Go.RowKit Go.Lib

/-- the sectors X stand in a row of bytes; the head in sector 0 is the new one, or none is there -/
def Mixed (w wr : World) (R N : List (List Int)) (b : Bool) (gm cap : Nat) : Prop :=
  ∃ a X, Below w.heap.size w wr ∧ Rd wr wr.heap.size (some ⟨gm, 0, none⟩) 25600 (cells X.flatten) ∧ 25600 ≤ cap ∧ cap ≤ maxLen ∧ SwC a X R N ∧ (∀ c ∈ X, c.length = 64) ∧ totalM R ≤ 199 ∧ totalM N ≤ 199 ∧
    ((b = true ∧ headInM X 0 = some (2, 1, ((totalM R : Nat) : Int) + 1)) ∨ (b = false ∧ headInM X 0 = none))
/-- they are on a disk -/
def LSt (w wr : World) (R N : List (List Int)) (b : Bool) (g : Nat) : Prop :=
  ∃ F a X, DiskAt wr g F ⟨X, []⟩ ∧ Below w.heap.size w wr ∧ SwC a X R N ∧ totalM R ≤ 199 ∧ totalM N ≤ 199 ∧
    ((b = true ∧ headInM X 0 = some (2, 1, ((totalM R : Nat) : Int) + 1)) ∨ (b = false ∧ headInM X 0 = none))
section
variable {w wr : World} {R N : List (List Int)} {b : Bool} {g gm cap : Nat}
theorem mixed_load (h : Mixed w wr R N b gm cap) : Calls Try.prog 34 #[.slice (some ⟨gm, 0, none⟩) 25600 cap, .int .i64 400] wr fun e w' => ∃ g, e = .returned (.tuple #[.pointer (some ⟨g, 0, none⟩), .int .i64 0]) ∧ LSt w w' R N b g := by
  obtain ⟨a, X, hb, hr, hc1, hc2, hs, h64, h1, h2, hh⟩ := h
  refine (load_any (some ⟨gm, 0, none⟩) 25600 cap X.flatten wr hr hc1 hc2 400 (by omega) (by omega)).mono ?_
  rintro e w' ⟨g, e1, hd, hbel⟩
  have hx := secs_flat X h64
  rw [hs.len] at hx
  rw [hx] at hd
  exact ⟨g, e1, _, a, X, hd, hb.trans (hbel.mono hb.size), hs, h1, h2, hh⟩
theorem lst_open (h : LSt w wr R N b g) (hR : ∀ r ∈ R, r.length ≤ 4096) (hN : ∀ r ∈ N, r.length ≤ 4096) : Calls Try.prog 26 #[.pointer (some ⟨g, 0, none⟩)] wr fun e w' =>
    ∃ l A c rs, e = .returned (.tuple #[.pointer (some ⟨l, 0, none⟩), .slice A rs.length c, .int .i64 0]) ∧ Rd w' w'.heap.size A rs.length (vals rs) ∧ SlsIn w' w'.heap.size rs ∧ lists rs = (if b then N else R) ∧ Below w.heap.size w w' := by
  obtain ⟨F, a, X, hd, hb, hs, h1, h2, hh⟩ := h
  have hcur : (⟨X, []⟩ : DS).cur = X := rfl
  have hlen := hs.len
  have hhf : (⟨X, []⟩ : DS).half = 199 := by unfold DS.half; rw [hlen]
  have key : ∀ (gen area first : Int) (W : List (List Int)), headOfM X = some (gen, area, first) → (area = 0 ∨ area = 1) → (0 ≤ gen ∧ gen < 4294967296) → (1 ≤ first ∧ first < 4294967296) → (recsM X 200 (2 + area.toNat * 199) 199 first).1 = W → Calls Try.prog 26 #[.pointer (some ⟨g, 0, none⟩)] wr fun e w' =>
      ∃ l A c rs, e = .returned (.tuple #[.pointer (some ⟨l, 0, none⟩), .slice A rs.length c, .int .i64 0]) ∧ Rd w' w'.heap.size A rs.length (vals rs) ∧ SlsIn w' w'.heap.size rs ∧ lists rs = W ∧ Below w.heap.size w w' := by
    intro gen area first W ho ha hg hf hw
    have h3 := open_some hd (by rw [hcur]; exact hs.is) (by rw [hlen]; omega) gen area first ho ha hg hf
    rw [hhf, hcur] at h3
    refine h3.mono ?_
    rintro e w' ⟨l, v, rs, e1, how, hsl, hls, _, _, _, hbel⟩
    obtain ⟨A, c, rfl, _, _⟩ := own_form how
    exact ⟨l, A, c, rs, e1, Rd.of_own how, hsl, hls.trans hw, hb.trans (hbel.mono hb.size)⟩
  rcases hh with ⟨rfl, hh⟩ | ⟨rfl, hh⟩
  · obtain ⟨k1, k2⟩ := hs.new hN h1 h2 hh
    exact key 2 1 _ N k1 (.inr rfl) ⟨by omega, by omega⟩ ⟨by omega, by omega⟩ (by rw [show 2 + (1 : Int).toNat * 199 = 201 from rfl, k2])
  · obtain ⟨k1, k2⟩ := hs.same hR h1 hh
    exact key 1 0 1 R k1 (.inl rfl) ⟨by omega, by omega⟩ ⟨by omega, by omega⟩ (by rw [show 2 + (0 : Int).toNat * 199 = 2 from rfl, k2])
end
end Go.Proofs.Ytehghjakggdnpaa
