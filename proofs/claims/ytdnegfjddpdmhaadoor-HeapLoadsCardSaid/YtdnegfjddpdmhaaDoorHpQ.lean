/-
  Pages that were answered, beside a heap that goes on.
-/
import Derived.Test.YtdnegfjddpdmhaaDoorHLift
namespace Go.Proofs.YtdnegfjddpdmhaaDoor
open Go.RowKit Go.Lib

/-- pages that were answered: all in a footprint of their own -/
structure Bf (E : Nat → Prop) (w : World) (A : Option Addr) (c : Nat) (ys : List Pv) : Prop where
  own : w.ownsRow 0 33 1 (.slice A ys.length c) ys.length (pvals ys)
  dom : ∀ k, (Value.slice A ys.length c).ownBlock = some k → E k
  ok : ∀ y ∈ ys, y.Ok E w
section
variable {E F : Nat → Prop} {w w' : World} {A : Option Addr} {c : Nat} {ys : List Pv}
theorem Bf.chg (h : Bf E w A c ys) (hc : Chg F w w') (hd : ∀ k, k < w.heap.size → E k → ¬ F k) : Bf E w' A c ys :=
  ⟨own_chg h.own hc fun k hk => hd k (h.own.lt k hk).2 (h.dom k hk), h.dom, fun y hy => by
    have h1 := h.ok y hy
    exact ⟨own_chg h1.own hc fun k hk => hd k (h1.own.lt k hk).2 (h1.dom k hk), h1.good, h1.dom⟩⟩
theorem Bf.below (h : Bf E w A c ys) (hb : Below w.heap.size w w') : Bf E w' A c ys := h.chg (F := Non) (Chg.of_below hb) fun _ _ _ hn => hn
theorem Bf.rin (h : Bf E w A c ys) : RIn0 w A ys.length (ys.map ofPv) := RIn0.of_pages h.own h.ok
theorem Bf.at_ (h : Bf E w A c ys) {k : Nat} (hk : k < ys.length) : ∃ ad, A = some ad ∧ w.cell? (ad.add k) = some ys[k].val ∧ PgOk w ys[k] := by
  obtain ⟨ad, u, e, _, hu, hc⟩ := (Rd.of_own h.own).at_ hk
  rw [pvals_at hk] at hu
  have h1 := h.ok ys[k] (List.getElem_mem hk)
  exact ⟨ad, e, by rw [hc, ← Option.some.inj hu], h1.sl, h1.good⟩
end
theorem map_len {α β : Type} (f : α → β) (xs : List α) : (xs.map f).length = xs.length := by simp
theorem bf_lists {xs ys : List Pv} (h : pslots xs = pslots ys) : rlists (xs.map ofPv) = rlists (ys.map ofPv) := by rw [rlists_pv, rlists_pv, h]
theorem bf_small {xs : List Pv} : ∀ x ∈ xs.map ofPv, x.n ≤ 140000000000000 := fun x hx => by
  obtain ⟨y, _, rfl⟩ := List.mem_map.1 hx
  show 256 ≤ _
  omega
theorem hs_pagesB {w0 w : World} {D : Nat → Prop} {hb : Nat} {ps : Pgs} (h : HS w0 D w hb ps) : Calls Tryd.prog 14 #[.pointer (some ⟨hb, 0, none⟩)] w fun e w' => ∃ A c n ys, e = .returned (.slice A n c) ∧ n = ys.length ∧ Bf (fun k => w.heap.size ≤ k ∧ k < w'.heap.size) w' A c ys ∧ pslots ys = ps ∧ Below w.heap.size w w' := by
  refine (pages_any h.hp (by have := h.ok.few; omega)).mono ?_
  rintro e w' ⟨v, ys, rfl, h1, h2, h3, h4⟩
  obtain ⟨A, c, rfl, _, _⟩ := own_shape h1
  exact ⟨A, c, _, ys, rfl, rfl, ⟨own_base h1 (Nat.zero_le _), fun k hk => h1.lt k hk, h3⟩, h2, h4⟩
/-- SameLists of two rows of pages that are alike -/
theorem same_pages (w : World) {E1 E2 : Nat → Prop} {A1 A2 : Option Addr} {c1 c2 n1 n2 : Nat} {xs ys : List Pv} (h1 : Bf E1 w A1 c1 xs) (h2 : Bf E2 w A2 c2 ys) (e1 : n1 = xs.length) (e2 : n2 = ys.length) (hs : pslots xs = pslots ys) (hn : xs.length ≤ 1000000) :
    Calls Tryd.prog 13 #[.slice A1 n1 c1, .slice A2 n2 c2] w fun e w' => e = .returned (.bool true) ∧ Below w.heap.size w w' := by
  have hl : ys.length = xs.length := by rw [← pslots_len, ← pslots_len, hs]
  have h2' := h2.rin
  rw [hl] at h2'
  rw [e1, e2, hl]
  refine (sameLists_yes A1 A2 xs.length c1 c2 _ _ w h1.rin h2' (bf_lists hs) bf_small (by omega)).mono ?_
  rintro e w' ⟨rfl, d, rfl⟩
  exact ⟨rfl, below_dN (Below.refl _ _) d⟩
theorem addN_len (ps : Pgs) (b : List Int) : (addN ps b).length ≤ ps.length + 1 := by
  unfold addN
  split
  · rw [setH_len]
    have := fitH_le b ps
    omega
  · omega
theorem add_small {ps : Pgs} {b : List Int} (hp : ps.length ≤ 255) (h : addE ps b ≠ 0) : 200 < b.length ∧ addN ps b = ps := by
  have h1 : 200 < b.length := by
    unfold addE at h
    split at h
    · assumption
    · split at h
      · have := fitH_le b ps
        omega
      · exact absurd rfl h
  exact ⟨h1, (addE_range h1).2.2.2⟩
theorem add_done {ps : Pgs} {b : List Int} (h : addE ps b = 0) : ¬ 200 < b.length ∧ fitH b ps < 256 ∧ addPg ps b = (fitH b ps : Int) ∧ addSl ps b = (ffP (pgAt ps (fitH b ps)) : Int) ∧ addN ps b = setH ps (fitH b ps) (setP (pgAt ps (fitH b ps)) (ffP (pgAt ps (fitH b ps))) (some b)) := by
  have h1 : ¬ 200 < b.length := fun h2 => by rw [(addE_range h2).1] at h; omega
  have h2 : fitH b ps < 256 := by
    rcases Nat.lt_or_ge (fitH b ps) 256 with h3 | h3
    · exact h3
    · rw [(addE_full h1 h3).1] at h; omega
  obtain ⟨_, e1, e2, e3⟩ := addE_ok h1 h2 rfl
  exact ⟨h1, h2, e1, e2, e3⟩
/-- what was added is got -/
theorem add_got {ps : Pgs} {b : List Int} (h : addE ps b = 0) : getH (addN ps b) (addPg ps b) (addSl ps b) = some b := by
  obtain ⟨h1, h2, e1, e2, e3⟩ := add_done h
  rw [e1, e2, e3, getH, if_pos (by rw [setH_len]; omega), Int.toNat_natCast, pgAt_set]
  have hs := set_at (pgAt ps (fitH b ps)) (ffP (pgAt ps (fitH b ps))) (some b)
  exact (taken_at hs).2

/-- rows of the argument that have been added so far -/
def AdLoop (w0 : World) (hb : Nat) (n : Nat) (i : Value) (wr : World) : Prop :=
  ∃ (k : Nat) (D : Nat → Prop) (ps : Pgs), k ≤ n ∧ i = .int .i64 k ∧ HS w0 D wr hb ps ∧ ps.length ≤ k
end Go.Proofs.YtdnegfjddpdmhaaDoor
