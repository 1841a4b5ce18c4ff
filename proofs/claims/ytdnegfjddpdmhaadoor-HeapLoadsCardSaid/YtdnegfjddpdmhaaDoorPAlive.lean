/-
  alive: what the document fixes: it answers true. What an own page is, call by call.
-/
import Derived.Test.YtdnegfjddpdmhaaDoorPLift
import Derived.Lib.SlBytesConst
namespace Go.Proofs.YtdnegfjddpdmhaaDoor
open Go.RowKit Go.Lib

/-- it answers true, and nothing that was there has turned -/
def YesB (w : World) (e : Ending) (w' : World) : Prop := e = .returned (.bool true) ∧ Below w.heap.size w w'

theorem pg_zeros : IsPg zeros [] := ⟨Fit.nil, .nil, by decide +kernel⟩
theorem put_pg {p q b : List Int} {s : List Slot} {k : Int} (hp : IsPg p s) (hb : IsBytes b) (h : putP (some s) k b = some q) : 0 ≤ k ∧ k ≤ 250 ∧ (b.length : Int) ≤ roomP s k.toNat ∧ q = imgP (setP s k.toNat (some b)) ∧ IsPg q (setP s k.toNat (some b)) := by
  simp only [putP] at h
  split at h
  · rename_i hr
    have hk : 0 ≤ k ∧ k ≤ 250 := by
      by_cases hk : k < 0 ∨ 250 < k
      · rw [roomI, if_pos hk] at hr; omega
      · omega
    rw [roomI, if_neg (by omega)] at hr
    have e := (Option.some.inj h).symm
    exact ⟨hk.1, hk.2, hr, e, set_fit hp.fit hb hr, set_trim hp.trim, e⟩
  · cases h
theorem Sl.of_blk {w : World} {g : Nat} {l : List Int} (h : Blk w g 5 (cells l).toArray) (hb : IsBytes l) (hl : l.length = 256) : Sl w (some ⟨g, 0, none⟩) 256 256 l := by
  have hown := own_blk (base := 0) h (Nat.zero_le _) (by rw [hl]; simp [maxLen])
  rw [hl] at hown
  exact ⟨Rd.of_own hown, hb, Nat.le_refl _, by simp [maxLen], fun _ => ⟨g, rfl⟩⟩

theorem fitB {s : List Slot} (h1 : (s.all fun o => (bsS o).all fun x => decide (0 ≤ x ∧ x < 256)) = true) (h2 : (s.all fun o => decide ((bsS o).length ≤ 200)) = true) (h3 : 1 + s.length + wtP s ≤ 256) : Fit s := by
  refine ⟨fun o ho x hx => ?_, fun o ho => ?_, h3⟩
  · have := List.all_eq_true.1 (List.all_eq_true.1 h1 o ho) x hx
    simpa using this
  · have := List.all_eq_true.1 h2 o ho
    simpa using this
theorem conv_bytes (w : World) (xs : List Int) (n : Nat) (hn : n = xs.length) (h : n < 100) : (convert 33 33 (.slice (some ⟨w.heap.size, 0, none⟩) n n)).run Tryd.prog (w.alloc (.cells (cells xs).toArray 5)) = .ok (.slice (some ⟨w.heap.size, 0, none⟩) n n) (w.alloc (.cells (cells xs).toArray 5 (n, n + 1))) := by
  subst hn
  have h := run_convert_bytes_const (P := Tryd.prog) w 33 5 (cells xs).toArray xs.length xs.length Tryd.underlying33 Tryd.underlying5
  have e : (cells xs).toArray.size = xs.length := by simp [cells]
  first | exact h | (rw [e] at h; exact h) | (simp only [e] at h; exact h)
theorem rd_lit (w : World) (xs : List Int) (fr : Nat × Nat) (h0 : 0 < xs.length) : Rd (w.alloc (.cells (cells xs).toArray 5 fr)) (w.alloc (.cells (cells xs).toArray 5 fr)).heap.size (some ⟨w.heap.size, 0, none⟩) xs.length (cells xs) := by
  refine ⟨by simp [cells], fun _ => ⟨_, rfl, by simp, fun j u hu => ?_⟩⟩
  rw [Addr.add_mid, Nat.zero_add]
  have h := cell_of_row (w.alloc (.cells (cells xs).toArray 5 fr)) w.heap.size j (cells xs).toArray 5 fr (heap_alloc_new w _)
  rw [h]
  simpa using hu

end Go.Proofs.YtdnegfjddpdmhaaDoor
