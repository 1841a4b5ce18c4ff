/-
  alive: what the document fixes of layer 1, at five bytes: it answers true.
-/
import Derived.Test.YtokpealeohoagaaRead2
namespace Go.Proofs.Ytokpealeohoagaa
open Go.RowKit Go.Lib

/-- a block that is known whole, as a slice's cells -/
theorem Rd.blk {w : World} {g n : Nat} {t : TypeId} {cs : Array Value} (h : Blk w g t cs) (hn : cs.size = n) : Rd w w.heap.size (some ⟨g, 0, none⟩) n cs.toList := by
  refine ⟨by simpa using hn, fun _ => ⟨_, rfl, h.lt, fun j u hu => ?_⟩⟩
  have hadd : (⟨g, 0, none⟩ : Addr).add j = ⟨g, j, none⟩ := by unfold Addr.add; split <;> simp_all
  rw [hadd, h.cell j]
  simpa using hu

theorem encI_m1 : encI (-1) = [1] := by simp [encI, foldN, enc_small]
theorem encI_64 : encI 64 = [128, 1] := by simp [encI, foldN]; rw [enc_big (by omega), enc_small (by omega)]; rfl
theorem encI_1 : encI 1 = [2] := by simp [encI, foldN, enc_small]
theorem rInt_alive : rInt (some [128, 1, 2, 97, 98]) = (64, some [2, 97, 98]) := by
  have h := rInt_enc 64 [2, 97, 98] (by omega) (by omega)
  rw [encI_64] at h
  exact h
theorem rText_alive : rText (some [2, 97, 98]) = ([97], some [98]) := by
  have h := rText_enc [97] [98] (by simp)
  rw [encT] at h
  rw [show (([97] : List Int).length : Int) = 1 from rfl, encI_1] at h
  exact h
theorem mk_a : mkStr [97] = ⟨#[97]⟩ := rfl

def Yes (w : World) (e : Ending) (w' : World) : Prop := e = .returned (.bool true) ∧ Below w.heap.size w w'

/-- SameBytes, told by what it leaves: old memory as it was -/
def YesBelow (w : World) (e : Ending) (w' : World) : Prop := e = .returned (.bool true) ∧ Below w.heap.size w w'
theorem sameBytes_below (A A' : Option Addr) (n c c' : Nat) (l : List Int) (w : World) (B B' : Nat) (hr : Rd w B A n (cells l)) (hr' : Rd w B' A' n (cells l)) (hn : n ≤ 140000000000000) :
    Calls Try.prog 10 #[.slice A n c, .slice A' n c'] w (YesBelow w) :=
  (sameBytes_yes A A' n c c' l w B B' hr hr' hn).mono fun e w' ⟨h1, d, h2⟩ => ⟨h1, by rw [h2]; exact below_drewN (Below.refl _ _) d⟩
theorem sameTexts_below (A A' : Option Addr) (n c c' : Nat) (ss : List ByteArray) (w : World) (B B' : Nat) (hr : Rd w B A n (strs ss)) (hr' : Rd w B' A' n (strs ss)) (hn : n ≤ 140000000000000) :
    Calls Try.prog 25 #[.slice A n c, .slice A' n c'] w (YesBelow w) :=
  (sameTexts_yes A A' n c c' ss w B B' hr hr' hn).mono fun e w' ⟨h1, d, h2⟩ => ⟨h1, by rw [h2]; exact below_drewN (Below.refl _ _) d⟩

/-- the same as OwnRet, the slice's shape told -/
def OwnSl (base n : Nat) (l : List Int) (w : World) (e : Ending) (w' : World) : Prop :=
  ∃ A c, e = .returned (.slice A n c) ∧ n ≤ c ∧ w'.ownsRow base 5 1 (.slice A n c) n (cells l) ∧ Below base w w'
theorem OwnRet.sl {base n : Nat} {l : List Int} {w : World} {e : Ending} {w' : World} (h : OwnRet base l w e w') (hn : l.length = n) : OwnSl base n l w e w' := by
  obtain ⟨v, rfl, h1, h2⟩ := h
  obtain ⟨A, c, rfl, h3, _⟩ := own_shape h1
  subst hn
  exact ⟨A, c, rfl, h3, h1, h2⟩
theorem int_m1 (w : World) : Calls Try.prog 11 #[.int .i64 (-1)] w (OwnSl w.heap.size 1 [1] w) :=
  (int_any (-1) w (by omega) (by omega)).mono fun e w' h => by rw [encI_m1] at h; exact h.sl rfl
theorem int_64 (w : World) : Calls Try.prog 11 #[.int .i64 64] w (OwnSl w.heap.size 2 [128, 1] w) :=
  (int_any 64 w (by omega) (by omega)).mono fun e w' h => by rw [encI_64] at h; exact h.sl rfl

theorem RdRet.below {g C : Nat} {v : Value} {s : St} {w w' : World} {e : Ending} (h : RdRet g v s w e w') (hC : C ≤ w.heap.size) (hg : C ≤ g) : Below C w w' :=
  (Below.refl _ _).grown h.2.2 hC fun k hk => by injection hk with hk; omega

set_option maxRecDepth 100000 in
set_option maxHeartbeats 800000 in
theorem alive_any (w : World) : Calls Try.prog 9 #[] w (Yes w) := by
  have hr0 : Rd (w.alloc (.cells #[.int .u8 128, .int .u8 1, .int .u8 2, .int .u8 97, .int .u8 98] 5)) (w.alloc (.cells #[.int .u8 128, .int .u8 1, .int .u8 2, .int .u8 97, .int .u8 98] 5)).heap.size (some ⟨w.heap.size, 0, none⟩) 5 (cells [128, 1, 2, 97, 98]) :=
    Rd.blk (Blk.new _ _ _) rfl
  have HR := Lib.hid hr0
  clear hr0
  go_enter Try.func9, Try.ntmps9
  go_wp2_with fail
  refine (new_any _ 5 5 [128, 1, 2, 97, 98] _ HR.out (by intro x hx; simp at hx; omega) (by omega)).mono ?_
  rintro e w1 ⟨g, rfl, hbr, hb, hg⟩
  have b1 : Below w.heap.size w w1 := ((Below.refl _ _).alloc (Nat.le_refl _) _).trans (hb.mono (by simp))
  have z1 := hbr.lt
  have zg : w.heap.size ≤ g := by simp at hg; omega
  clear hb hg HR
  go_wp2_with fail
  refine (int_m1 _).mono ?_
  rintro e w2 ⟨A2, c2, rfl, _, h3, h4⟩
  have b2 := b1.trans (h4.mono b1.size)
  have hbr2 := hbr.below h4 z1
  have z2 := hbr2.lt
  have q1 := (Rd.of_own h3).alloc (Nat.le_refl _) (.cells #[.int .u8 1] 5)
  have q2 : Rd (w2.alloc (.cells #[.int .u8 1] 5)) (w2.alloc (.cells #[.int .u8 1] 5)).heap.size (some ⟨w2.heap.size, 0, none⟩) 1 (cells [1]) := Rd.blk (Blk.new _ _ _) rfl
  have HQ := Lib.hid (And.intro q1 q2)
  clear q1 q2 h3 h4 hbr
  go_wp2_with fail
  refine (sameBytes_below _ _ 1 _ _ [1] _ _ _ HQ.out.1 HQ.out.2 (by omega)).mono ?_
  rintro e w3 ⟨rfl, h5⟩
  have b3 := (b2.alloc b2.size _).trans (h5.mono (by have := b2.size; simp; omega))
  have hbr3 := hbr2.below (((Below.refl w2.heap.size w2).alloc (Nat.le_refl _) _).trans (h5.mono (by simp))) z2
  have z3 := hbr3.lt
  clear HQ h5 hbr2 b2 b1
  go_wp2_with fail
  refine (int_64 _).mono ?_
  rintro e w4 ⟨A4, c4, rfl, _, h3, h4⟩
  have b4 := b3.trans (h4.mono b3.size)
  have hbr4 := hbr3.below h4 z3
  have z4 := hbr4.lt
  have q1 := (Rd.of_own h3).alloc (Nat.le_refl _) (.cells #[.int .u8 128, .int .u8 1] 5)
  have q2 : Rd (w4.alloc (.cells #[.int .u8 128, .int .u8 1] 5)) (w4.alloc (.cells #[.int .u8 128, .int .u8 1] 5)).heap.size (some ⟨w4.heap.size, 0, none⟩) 2 (cells [128, 1]) := Rd.blk (Blk.new _ _ _) rfl
  have HQ := Lib.hid (And.intro q1 q2)
  clear q1 q2 h3 h4 hbr3
  go_wp2_with fail
  refine (sameBytes_below _ _ 2 _ _ [128, 1] _ _ _ HQ.out.1 HQ.out.2 (by omega)).mono ?_
  rintro e w5 ⟨rfl, h5⟩
  have b5 := (b4.alloc b4.size _).trans (h5.mono (by have := b4.size; simp; omega))
  have hbr5 := hbr4.below (((Below.refl w4.heap.size w4).alloc (Nat.le_refl _) _).trans (h5.mono (by simp))) z4
  have z5 := hbr5.lt
  clear HQ h5 hbr4 b4 b3
  go_wp2_with fail
  refine (rint_any g _ _ hbr5).mono ?_
  rw [rInt_alive]
  rintro e w6 h6
  have b6 := b5.trans (h6.below b5.size zg)
  obtain ⟨rfl, hbr6, _⟩ := h6
  go_wp2_with fail
  refine (rtext_any g _ _ hbr6).mono ?_
  rw [rText_alive, mk_a]
  rintro e w7 h7
  have b7 := b6.trans (h7.below b6.size zg)
  obtain ⟨rfl, hbr7, _⟩ := h7
  go_wp2_with fail
  refine (rbad_any g _ _ hbr7).mono ?_
  rintro e w8 ⟨rfl, rfl⟩
  go_wp2_with fail
  go_ret
  exact ⟨rfl, b7⟩

end Go.Proofs.Ytokpealeohoagaa
