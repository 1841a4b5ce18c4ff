/-
  The contracts of Get, Put, Add, Room at any bytes.
-/
import Derived.Test.YtdnegfjddpdmhaaDoorFnW
import Derived.Test.YtdnegfjddpdmhaaDoorFnR
import Derived.Test.YtdnegfjddpdmhaaDoorLibA
namespace Go.Proofs.YtdnegfjddpdmhaaDoor
open Go.RowKit Go.Lib

/-- a slice that reads as bytes; a row of 256 lies at the beginning of a block -/
structure Sl (w : World) (A : Option Addr) (n c : Nat) (l : List Int) : Prop where
  rd : Rd w w.heap.size A n (cells l)
  byt : IsBytes l
  cap : n ≤ c
  top : c ≤ maxLen
  adr : n = 256 → ∃ g, A = some ⟨g, 0, none⟩
section
variable {w w' : World} {A : Option Addr} {n c : Nat} {l : List Int}
theorem Sl.len (h : Sl w A n c l) : l.length = n := by have := h.rd.1; rwa [cells_len] at this
theorem Sl.below (h : Sl w A n c l) (hb : Below w.heap.size w w') : Sl w' A n c l := { h with rd := (h.rd.below hb (Nat.le_refl _)).more hb.size }
theorem Sl.of_own {base : Nat} {v : Value} (h : w.ownsRow base 5 1 v l.length (cells l)) (hb : IsBytes l) : ∃ A c, v = .slice A l.length c ∧ Sl w A l.length c l := by
  obtain ⟨A, c, rfl, h1, h2⟩ := own_shape h
  refine ⟨A, c, rfl, Rd.of_own h, hb, h1, h2, fun hn => ?_⟩
  obtain ⟨g, cap, hv, _, _⟩ := h.form (by omega)
  injection hv with e1
  exact ⟨g, e1⟩
theorem Sl.nil : Sl w none 0 0 [] := ⟨Rd.empty, .nil, Nat.le_refl _, by simp [maxLen], fun h => by omega⟩
end

open Classical in
/-- the slots of bytes, if they are a page -/
noncomputable def ofP (p : List Int) : Option (List Slot) := if h : ∃ s, IsPg p s then some (Classical.choose h) else none
theorem ofP_some {p : List Int} {s : List Slot} (h : ofP p = some s) : IsPg p s := by
  unfold ofP at h
  split at h
  · rename_i h1
    have := Classical.choose_spec h1
    rwa [Option.some.inj h] at this
  · cases h
theorem ofP_pg {p : List Int} {s : List Slot} (h : IsPg p s) : ofP p = some s := by
  cases ho : ofP p with
  | some t => rw [(ofP_some ho).unique h]
  | none =>
    unfold ofP at ho
    split at ho
    · cases ho
    · rename_i h1; exact absurd ⟨s, h⟩ h1
theorem ofP_none {p : List Int} (h : ofP p = none) : ¬ ∃ s, IsPg p s := fun ⟨s, hs⟩ => by rw [ofP_pg hs] at h; cases h
theorem ofP_isSome {p : List Int} : (ofP p).isSome = true ↔ ∃ s, IsPg p s := by
  cases ho : ofP p with
  | some t => simp; exact ⟨t, ofP_some ho⟩
  | none => have := ofP_none ho; simp at this ⊢; exact this

/-- what Put answers -/
def putP (q : Option (List Slot)) (k : Int) (b : List Int) : Option (List Int) := match q with
  | none => none
  | some s => if (b.length : Int) ≤ roomI s k then some (imgP (setP s k.toNat (some b))) else none
/-- what Get answers -/
def getP (q : Option (List Slot)) (k : Int) : Option (List Int) := match q with
  | none => none
  | some s => if takenP s k then some (bsS ((s[k.toNat]?).getD none)) else none
def addP (q : Option (List Slot)) (b : List Int) : Option (List Int) := match q with
  | none => none
  | some s => putP (some s) (ffP s) b
def addK (q : Option (List Slot)) (b : List Int) : Nat := match q with
  | none => 0
  | some s => if (addP q b).isSome then ffP s else 0
def roomO (q : Option (List Slot)) : Int := match q with
  | none => 0
  | some s => roomI s (ffP s)

/-- bytes of the call's own and true; or nothing and false -/
def BsRet (r : Option (List Int)) (w : World) (e : Ending) (w' : World) : Prop :=
  ∃ v, e = .returned (.tuple #[v, .bool r.isSome]) ∧ w'.ownsRow w.heap.size 5 1 v (r.getD []).length (cells (r.getD [])) ∧ Below w.heap.size w w'
theorem bs_no {r : Option (List Int)} {w w' : World} (h : r = none) (hb : Below w.heap.size w w') : BsRet r w (.returned (.tuple #[.slice none 0 0, .bool false])) w' := by
  subst h
  exact ⟨_, rfl, ⟨rfl, .inl ⟨rfl, rfl⟩⟩, hb⟩
theorem own_blk {w : World} {base g : Nat} {l : List Int} (h : Blk w g 5 (cells l).toArray) (hg : base ≤ g) (hl : l.length ≤ maxLen) :
    w.ownsRow base 5 1 (.slice (some ⟨g, 0, none⟩) l.length l.length) l.length (cells l) :=
  ⟨by simp [cells], .inr ⟨g, l.length, (cells l).toArray, rfl, hg, h, Nat.le_refl _, hl, by simp [cells], by simp [cells, List.take_of_length_le]⟩⟩
theorem bs_pg {r : Option (List Int)} {l : List Int} {w w' w1 : World} {e : Ending} (h : r = some l) (hl : l.length = 256) (hp : PgRet l w1 e w') (hb : Below w.heap.size w w1) :
    ∃ g, e = .returned (.slice (some ⟨g, 0, none⟩) 256 256) ∧ BsRet r w (.returned (.tuple #[.slice (some ⟨g, 0, none⟩) 256 256, .bool true])) w' := by
  subst h
  obtain ⟨g, rfl, hk, hg, hb2⟩ := hp
  refine ⟨g, rfl, _, rfl, ?_, hb.trans (hb2.mono hb.size)⟩
  have := own_blk (base := w.heap.size) hk (Nat.le_trans hb.size hg) (by rw [hl]; simp [maxLen])
  rw [hl] at this
  simpa [hl] using this

theorem right_sl (w : World) (A : Option Addr) (n c : Nat) (l : List Int) (h : Sl w A n c l) :
    Calls Tryd.prog 41 #[.slice A n c] w fun e w' => e = .returned (.bool (ofP l).isSome) ∧ Below w.heap.size w w' := by
  have hfin : ∀ e w', RtRet l w e w' → e = .returned (.bool (ofP l).isSome) ∧ Below w.heap.size w w' := by
    rintro e w' ⟨b, rfl, hb, hl⟩
    refine ⟨?_, hl⟩
    have : b = (ofP l).isSome := by rw [Bool.eq_iff_iff, hb, ofP_isSome]
    rw [this]
  by_cases hn : n = 256
  · subst hn
    obtain ⟨g, rfl⟩ := h.adr rfl
    have h0 : 0 < l.length := by have := h.len; omega
    have hx := h.byt _ (List.getElem_mem h0)
    have hp : PAt w w.heap.size g c l l[0].toNat := ⟨h.rd, h.cap, h.top, h.len, h.byt, by rw [List.getElem?_eq_getElem h0]; congr 1; omega⟩
    exact (right_at w g c l _ hp).mono hfin
  · exact (right_len w A n c l h.len hn).mono hfin

theorem Sl.pg {w : World} {A : Option Addr} {n c : Nat} {l : List Int} {s : List Slot} (h : Sl w A n c l) (hp : IsPg l s) : n = 256 ∧ ∃ g, A = some ⟨g, 0, none⟩ ∧ PAt w w.heap.size g c l s.length := by
  have hn : n = 256 := by rw [← h.len]; exact hp.len
  obtain ⟨g, rfl⟩ := h.adr hn
  subst hn
  exact ⟨rfl, g, rfl, PAt.of_pg hp h.rd h.cap h.top⟩

section
variable (w : World) (A : Option Addr) (n c : Nat) (l : List Int) (h : Sl w A n c l)
include h

set_option maxRecDepth 100000 in
set_option maxHeartbeats 1600000 in
theorem put_any (k : Int) (A2 : Option Addr) (n2 c2 : Nat) (b : List Int) (h2 : Rd w w.heap.size A2 n2 (cells b)) (hb : IsBytes b) :
    Calls Tryd.prog 74 #[.slice A n c, .int .i64 k, .slice A2 n2 c2] w (BsRet (putP (ofP l) k b) w) := by
  have HR := Lib.hid (right_sl w A n c l h)
  cases ho : ofP l with
  | none =>
    have HE := Lib.hid (show (ofP l).isSome = false by rw [ho]; rfl)
    clear ho h h2 hb
    go_enter Tryd.func74, Tryd.ntmps74
    go_wp2_with fail
    refine HR.out.mono ?_
    rintro e w1 ⟨rfl, hb1⟩
    rw [HE.out]
    have HB := Lib.hid hb1
    clear hb1
    go_wp2
    go_ret2
    exact bs_no rfl HB.out
  | some s =>
    have HE := Lib.hid (show (ofP l).isSome = true by rw [ho]; rfl)
    have hp := ofP_some ho
    obtain ⟨rfl, g, rfl, ha⟩ := h.pg hp
    have HP := Lib.hid (And.intro hp ha)
    have H2 := Lib.hid (And.intro h2 hb)
    have hbl : b.length = n2 := by have := h2.1; rwa [cells_len] at this
    have HBL := Lib.hid hbl
    obtain ⟨R, hR⟩ : ∃ R, R = roomI s k := ⟨_, rfl⟩
    have HRR := Lib.hid hR
    have h200 : R ≤ 200 := by
      rw [hR]
      unfold roomI roomP
      split <;> omega
    by_cases hlt : R < (n2 : Int)
    · have HF := Lib.hid (show putP (some s) k b = none by
        simp only [putP]
        rw [if_neg (by rw [← HRR.out, HBL.out]; omega)])
      clear ho hp h h2 hb hbl ha hR
      go_enter Tryd.func74, Tryd.ntmps74
      go_wp2_with fail
      refine HR.out.mono ?_
      rintro e w1 ⟨rfl, hb1⟩
      rw [HE.out]
      have HB := Lib.hid hb1
      have HA := Lib.hid ((HP.out.2.below hb1 (Nat.le_refl _)))
      clear hb1
      go_wp2_with fail
      refine (room_any w1 w.heap.size g c l s HP.out.1 HA.out k).mono ?_
      rintro e w' ⟨rfl, rfl⟩
      rw [← HRR.out]
      go_wp2
      go_ret2
      exact bs_no HF.out HB.out
    · have hk0 : 0 ≤ k ∧ k ≤ 250 := by
        by_cases hk : k < 0 ∨ 250 < k
        · rw [roomI, if_pos hk] at hR; omega
        · omega
      obtain ⟨j, rfl⟩ : ∃ j : Nat, k = (j : Int) := ⟨k.toNat, by omega⟩
      have hroom : (b.length : Int) ≤ roomP s j := by
        rw [roomI, if_neg (by omega), Int.toNat_natCast] at hR
        rw [← hR, hbl]; omega
      have HFT := Lib.hid (set_fit hp.fit hb hroom)
      have HF := Lib.hid (show putP (some s) (j : Int) b = some (imgP (setP s j (some b))) by
        simp only [putP, Int.toNat_natCast]
        rw [if_pos (by rw [← HRR.out, HBL.out]; omega)])
      have hn0 : (0 : Int) ≤ (n2 : Int) := Int.natCast_nonneg _
      have hw8 : IntKind.u8.wrap ((n2 : Int) + 1) = (n2 : Int) + 1 := by rw [IntKind.wrap_u8]; omega
      have hj0 : j ≤ 254 := by omega
      clear ho hp h h2 hb hbl ha hR hroom
      go_enter Tryd.func74, Tryd.ntmps74
      go_wp2_with fail
      refine HR.out.mono ?_
      rintro e w1 ⟨rfl, hb1⟩
      rw [HE.out]
      have HB := Lib.hid hb1
      have HA := Lib.hid ((HP.out.2.below hb1 (Nat.le_refl _)))
      clear hb1
      go_wp2_with fail
      refine (room_any w1 w.heap.size g c l s HP.out.1 HA.out (j : Int)).mono ?_
      rintro e w' ⟨rfl, rfl⟩
      rw [← HRR.out]
      go_wp2_with fail
      refine (with_any _ g c l s HP.out.1 { HA.out with rd := HA.out.rd.more HB.out.size } j hj0 (some b) HFT.out A2 n2 c2 ((H2.out.1.below HB.out (Nat.le_refl _)).more HB.out.size) ((n2 : Int) + 1) (by simp only [mkS]; rw [HBL.out])).mono ?_
      intro e w2 hret
      obtain ⟨g2, rfl, hbs⟩ := bs_pg (w := w) HF.out HFT.out.img_len hret HB.out
      have HBS := Lib.hid hbs
      clear hret hbs
      go_wp2
      go_ret2
      exact HBS.out

set_option maxRecDepth 100000 in
set_option maxHeartbeats 1600000 in
theorem room_sl : Calls Tryd.prog 31 #[.slice A n c] w fun e w' => e = .returned (.int .i64 (roomO (ofP l))) ∧ Below w.heap.size w w' := by
  have HR := Lib.hid (right_sl w A n c l h)
  cases ho : ofP l with
  | none =>
    have HE := Lib.hid (show (ofP l).isSome = false by rw [ho]; rfl)
    clear ho h
    go_enter Tryd.func31, Tryd.ntmps31
    go_wp2_with fail
    refine HR.out.mono ?_
    rintro e w1 ⟨rfl, hb1⟩
    rw [HE.out]
    have HB := Lib.hid hb1
    clear hb1
    go_wp2
    go_ret
    exact ⟨rfl, HB.out⟩
  | some s =>
    have HE := Lib.hid (show (ofP l).isSome = true by rw [ho]; rfl)
    have hp := ofP_some ho
    obtain ⟨rfl, g, rfl, ha⟩ := h.pg hp
    have HP := Lib.hid (And.intro hp ha)
    clear ho hp h ha
    go_enter Tryd.func31, Tryd.ntmps31
    go_wp2_with fail
    refine HR.out.mono ?_
    rintro e w1 ⟨rfl, hb1⟩
    rw [HE.out]
    have HB := Lib.hid hb1
    have HA := Lib.hid ((HP.out.2.below hb1 (Nat.le_refl _)))
    clear hb1
    go_wp2_with fail
    refine (firstFree_any w1 w.heap.size g c l s HP.out.1 HA.out).mono ?_
    rintro e w' ⟨rfl, rfl⟩
    go_wp2_with fail
    refine (room_any w' w.heap.size g c l s HP.out.1 HA.out _).mono ?_
    rintro e w' ⟨rfl, rfl⟩
    go_wp2
    go_ret
    exact ⟨rfl, HB.out⟩
end
end Go.Proofs.YtdnegfjddpdmhaaDoor
