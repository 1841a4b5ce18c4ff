/-
  The landed modes: Above.
-/
import Derived.Test.YtbkffcopahiilaaMoF
import Derived.Test.YtbkffcopahiilaaMLays
namespace Go.Proofs.Ytbkffcopahiilaa
open Go.RowKit Go.Lib

theorem mclone_any (s : ByteArray) (w : World) (hs : s.size ≤ 281474976710656) : Says Try.prog 25 #[.string s] w (.string s) := by
  have HC := Lib.hid (Any.stringslite_Clone Try.laysClone s w hs)
  clear hs
  go_enter Try.func25, Try.ntmps25
  go_wp2_with fail
  refine HC.out.mono ?_
  rintro r w1 ⟨rfl, hb⟩
  have HB := Lib.hid hb
  clear hb
  go_wp2_with fail
  go_ret
  exact ⟨rfl, HB.out⟩
/-- the thing asked for and the database, each in a block of its own -/
structure AbS (w0 : World) (b d : Nat) (x : Th) (w : World) : Prop where
  low : Below w0.heap.size w0 w
  lo : w0.heap.size ≤ b
  hb : b < w.heap.size
  hd : d < w.heap.size
  th : Tg w b x
  db : Tg w d dbT
theorem AbS.below {w0 w w' : World} {b d : Nat} {x : Th} (h : AbS w0 b d x w) (hb : Below w.heap.size w w') : AbS w0 b d x w' :=
  ⟨h.low.trans (hb.mono h.low.size), h.lo, Nat.lt_of_lt_of_le h.hb hb.size, Nat.lt_of_lt_of_le h.hd hb.size, h.th.below hb h.hb, h.db.below hb h.hd⟩
theorem AbS.drew {w0 w : World} {b d : Nat} {x : Th} (h : AbS w0 b d x w) : AbS w0 b d x w.drew := h.below ((Below.refl _ w).drew)
theorem AbS.alloc {w0 w : World} {b d : Nat} {x : Th} (h : AbS w0 b d x w) (o : Obj) : AbS w0 b d x (w.alloc o) := h.below ((Below.refl _ w).alloc (Nat.le_refl _) _)
theorem AbS.mk0 (w : World) (x : Th) : AbS w w.heap.size (w.heap.size + 1) x ((w.alloc (.cells #[.int .i64 x.k, .string x.t, .string x.y] 27)).alloc (.cells #[.int .i64 1, .string ⟨#[]⟩, .string ⟨#[]⟩] 27)) := by
  obtain ⟨hT, hB⟩ := tg_new w x
  obtain ⟨w1, hw1⟩ : ∃ w1, w1 = w.alloc (.cells #[.int .i64 x.k, .string x.t, .string x.y] 27) := ⟨_, rfl⟩
  rw [← hw1] at hT hB ⊢
  have hs1 : w1.heap.size = w.heap.size + 1 := by rw [hw1]; simp
  obtain ⟨hT2, hB2⟩ := tg_new w1 dbT
  have h2 := hT2
  rw [hs1] at h2
  refine ⟨hB.trans (hB2.mono hB.size), Nat.le_refl _, by simp [hs1]; omega, by simp [hs1], hT.below hB2 (by omega), h2⟩
theorem ab_lit {w w3 : World} (hb : Below w.heap.size w w3) (l : List Th) (cs : Array Value) (hcs : cs.toList = ths l) (h1 : 0 < l.length) (h2 : l.length ≤ 2) :
    AbRet w l (.returned (.slice (some ⟨w3.heap.size, 0, none⟩) l.length l.length)) (w3.alloc (.cells cs 27)) := by
  have hlen : ∀ l : List Th, (ths l).length = l.length * 3 := fun l => by
    induction l with
    | nil => rfl
    | cons x l ih =>
      have : (ths (x :: l)).length = 3 + (ths l).length := by simp [ths, thC]; omega
      rw [this, ih, List.length_cons]
      omega
  have hsz : cs.size = l.length * 3 := by rw [← Array.length_toList, hcs, hlen]
  have h9 := World.ownsRow_lit (base := w3.heap.size) (size := 3) (e := 27) w3 cs l.length (Nat.le_refl _) (by simp only [maxLen]; omega) hsz
  rw [hcs] at h9
  exact ⟨_, _, _, rfl, rfl, Nat.le_refl _, RowG.of_rows (fun _ => rfl) h9 rfl, hb.alloc hb.size _⟩
set_option maxRecDepth 100000 in
set_option maxHeartbeats 12800000 in
theorem above_any (x : Th) (w : World) (hx : x.In) : Calls Try.prog 16 #[thV x] w (AbRet w (abT x)) := by
  have HS := Lib.hid (AbS.mk0 w x)
  have HC := Lib.hid (show ∀ (z : Th) (w : World), Says Try.prog 18 #[thV z] w (.bool (fitsB z)) from fits_any)
  have HL := Lib.hid (show ∀ w, Says Try.prog 25 #[.string x.t] w (.string x.t) from fun w => mclone_any x.t w (by have := hx.2.1; unfold roomLen at this; omega))
  obtain ⟨k, t, y⟩ := x
  cases hf : fitsB ⟨k, t, y⟩ with
  | false =>
    rw [abT_out hf]
    have HF := Lib.hid hf
    clear hf hx
    go_enter Try.func16, Try.ntmps16
    go_upto_region 2 with fail
    obtain ⟨w2, hw2⟩ : ∃ w2, w2 = (w.alloc (.cells #[.int .i64 k, .string t, .string y] 27)).alloc (.cells #[.int .i64 1, .string ⟨#[]⟩, .string ⟨#[]⟩] 27) := ⟨_, rfl⟩
    rw [← hw2]
    have hs2 := HS.out
    simp only at hs2
    rw [← hw2] at hs2
    obtain ⟨d, hd⟩ : ∃ d, d = w.heap.size + 1 := ⟨_, rfl⟩
    obtain ⟨b, hb⟩ : ∃ b, b = w.heap.size := ⟨_, rfl⟩
    rw [← hd]
    rw [← hb]
    rw [← hd, ← hb] at hs2
    have c0 := hs2.th.k
    have c1 := hs2.th.t
    have c2 := hs2.th.y
    simp only at c0 c1 c2
    clear HS
    have HS := Lib.hid hs2
    clear hs2 hw2 hd hb
    go_wp2_with (go_at_call 18; refine (HC.out ⟨_, _, _⟩ _).mono ?_; rw [HF.out]; rintro e w3 ⟨rfl, hb3⟩; have hs3 := HS.out.below hb3; have a0 := hs3.th.k; have a1 := hs3.th.t; simp only at a0 a1; have e0 : w3.cell? ⟨d, 0, none⟩ = some (.int .i64 1) := hs3.db.k; have e1 : w3.cell? ⟨d, 1, none⟩ = some (.string ⟨#[]⟩) := hs3.db.t; have e2 : w3.cell? ⟨d, 2, none⟩ = some (.string ⟨#[]⟩) := hs3.db.y; clear HS hb3; have HS := Lib.hid hs3; clear hs3)
    go_ret
    exact AbRet.nil HS.out.low
  | true =>
    have HF := Lib.hid hf
    by_cases h3 : k = 3
    · have hl : abT ⟨k, t, y⟩ = [dbT] := by unfold abT; rw [hf, h3]; rfl
      rw [hl]
      have q3 : (k == 3) = true := by simp [h3]
      clear hf hl h3 hx
      go_enter Try.func16, Try.ntmps16
      go_upto_region 2 with fail
      obtain ⟨w2, hw2⟩ : ∃ w2, w2 = (w.alloc (.cells #[.int .i64 k, .string t, .string y] 27)).alloc (.cells #[.int .i64 1, .string ⟨#[]⟩, .string ⟨#[]⟩] 27) := ⟨_, rfl⟩
      rw [← hw2]
      have hs2 := HS.out
      simp only at hs2
      rw [← hw2] at hs2
      obtain ⟨d, hd⟩ : ∃ d, d = w.heap.size + 1 := ⟨_, rfl⟩
      obtain ⟨b, hb⟩ : ∃ b, b = w.heap.size := ⟨_, rfl⟩
      rw [← hd]
      rw [← hb]
      rw [← hd, ← hb] at hs2
      have c0 := hs2.th.k
      have c1 := hs2.th.t
      have c2 := hs2.th.y
      simp only at c0 c1 c2
      clear HS
      have HS := Lib.hid hs2
      clear hs2 hw2 hd hb
      go_wp2_with (go_at_call 18; refine (HC.out ⟨_, _, _⟩ _).mono ?_; rw [HF.out]; rintro e w3 ⟨rfl, hb3⟩; have hs3 := HS.out.below hb3; have a0 := hs3.th.k; have a1 := hs3.th.t; simp only at a0 a1; have e0 : w3.cell? ⟨d, 0, none⟩ = some (.int .i64 1) := hs3.db.k; have e1 : w3.cell? ⟨d, 1, none⟩ = some (.string ⟨#[]⟩) := hs3.db.t; have e2 : w3.cell? ⟨d, 2, none⟩ = some (.string ⟨#[]⟩) := hs3.db.y; clear HS hb3; have HS := Lib.hid hs3; clear hs3)
      go_ret
      exact ab_lit HS.out.low [dbT] _ rfl (by decide) (by decide)
    · have q3 : (k == 3) = false := by simp [h3]
      by_cases h4 : k = 4
      · have hl : abT ⟨k, t, y⟩ = [dbT, ⟨3, t, eS⟩] := by unfold abT; rw [hf, h4]; rfl
        rw [hl]
        have q4 : (k == 4) = true := by simp [h4]
        clear hf hl h3 h4 hx
        go_enter Try.func16, Try.ntmps16
        go_upto_region 2 with fail
        obtain ⟨w2, hw2⟩ : ∃ w2, w2 = (w.alloc (.cells #[.int .i64 k, .string t, .string y] 27)).alloc (.cells #[.int .i64 1, .string ⟨#[]⟩, .string ⟨#[]⟩] 27) := ⟨_, rfl⟩
        rw [← hw2]
        have hs2 := HS.out
        simp only at hs2
        rw [← hw2] at hs2
        obtain ⟨d, hd⟩ : ∃ d, d = w.heap.size + 1 := ⟨_, rfl⟩
        obtain ⟨b, hb⟩ : ∃ b, b = w.heap.size := ⟨_, rfl⟩
        rw [← hd]
        rw [← hb]
        rw [← hd, ← hb] at hs2
        have c0 := hs2.th.k
        have c1 := hs2.th.t
        have c2 := hs2.th.y
        simp only at c0 c1 c2
        clear HS
        have HS := Lib.hid hs2
        clear hs2 hw2 hd hb
        go_upto_region 7 with (go_at_call 18; refine (HC.out ⟨_, _, _⟩ _).mono ?_; rw [HF.out]; rintro e w3 ⟨rfl, hb3⟩; have hs3 := HS.out.below hb3; have a0 := hs3.th.k; have a1 := hs3.th.t; simp only at a0 a1; have e0 : w3.cell? ⟨d, 0, none⟩ = some (.int .i64 1) := hs3.db.k; have e1 : w3.cell? ⟨d, 1, none⟩ = some (.string ⟨#[]⟩) := hs3.db.t; have e2 : w3.cell? ⟨d, 2, none⟩ = some (.string ⟨#[]⟩) := hs3.db.y; clear HS hb3; have HS := Lib.hid hs3; clear hs3)
        go_region_with (go_at_call 25; refine (HL.out _).mono ?_; rintro e w4 ⟨rfl, hb4⟩; have hs4 := HS.out.drew.below hb4; have f0 : w4.cell? ⟨d, 0, none⟩ = some (.int .i64 1) := hs4.db.k; have f1 : w4.cell? ⟨d, 1, none⟩ = some (.string ⟨#[]⟩) := hs4.db.t; have f2 : w4.cell? ⟨d, 2, none⟩ = some (.string ⟨#[]⟩) := hs4.db.y; have HS4 := Lib.hid hs4; clear hb4 hs4)
        all_goals (go_wp2_with fail; go_ret; exact ab_lit HS4.out.low [dbT, ⟨3, t, eS⟩] _ rfl (by simp) (by simp))
      · have hl : abT ⟨k, t, y⟩ = [] := by unfold abT; rw [hf]; simp [h3, h4]
        rw [hl]
        have q4 : (k == 4) = false := by simp [h4]
        clear hf hl h3 h4 hx
        go_enter Try.func16, Try.ntmps16
        go_upto_region 2 with fail
        obtain ⟨w2, hw2⟩ : ∃ w2, w2 = (w.alloc (.cells #[.int .i64 k, .string t, .string y] 27)).alloc (.cells #[.int .i64 1, .string ⟨#[]⟩, .string ⟨#[]⟩] 27) := ⟨_, rfl⟩
        rw [← hw2]
        have hs2 := HS.out
        simp only at hs2
        rw [← hw2] at hs2
        obtain ⟨d, hd⟩ : ∃ d, d = w.heap.size + 1 := ⟨_, rfl⟩
        obtain ⟨b, hb⟩ : ∃ b, b = w.heap.size := ⟨_, rfl⟩
        rw [← hd]
        rw [← hb]
        rw [← hd, ← hb] at hs2
        have c0 := hs2.th.k
        have c1 := hs2.th.t
        have c2 := hs2.th.y
        simp only at c0 c1 c2
        clear HS
        have HS := Lib.hid hs2
        clear hs2 hw2 hd hb
        go_wp2_with (go_at_call 18; refine (HC.out ⟨_, _, _⟩ _).mono ?_; rw [HF.out]; rintro e w3 ⟨rfl, hb3⟩; have hs3 := HS.out.below hb3; have a0 := hs3.th.k; have a1 := hs3.th.t; simp only at a0 a1; have e0 : w3.cell? ⟨d, 0, none⟩ = some (.int .i64 1) := hs3.db.k; have e1 : w3.cell? ⟨d, 1, none⟩ = some (.string ⟨#[]⟩) := hs3.db.t; have e2 : w3.cell? ⟨d, 2, none⟩ = some (.string ⟨#[]⟩) := hs3.db.y; clear HS hb3; have HS := Lib.hid hs3; clear hs3)
        go_ret
        exact AbRet.nil HS.out.low
end Go.Proofs.Ytbkffcopahiilaa
