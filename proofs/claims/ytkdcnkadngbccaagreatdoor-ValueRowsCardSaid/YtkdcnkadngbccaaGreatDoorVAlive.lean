/-
  alive of layer 4: what the document fixes: it answers true.
-/
import Derived.Test.YtkdcnkadngbccaaGreatDoorShow
import Derived.Test.YtkdcnkadngbccaaGreatDoorEncd
import Derived.Test.YtkdcnkadngbccaaGreatDoorSame
namespace Go.Proofs.YtkdcnkadngbccaaGreatDoor
open Go.RowKit Go.Lib

def YesB (w : World) (e : Ending) (w' : World) : Prop := e = .returned (.bool true) ∧ Below w.heap.size w w'

def alS : ByteArray := ⟨#[34, 97, 92, 50, 50, 98, 34]⟩
def alU : ByteArray := ⟨#[97, 34, 98]⟩
theorem al_unq : unq alS = alU := by decide +kernel
theorem al_quote : mkStr (quoteL (bytes alU)) = alS := by decide +kernel
theorem al_right : rightV 3 0 alU = true := by decide +kernel
theorem al_show : showV 3 0 alU = alS := by decide +kernel
theorem al_ord : ordV 0 0 ⟨#[]⟩ 1 0 ⟨#[]⟩ = -1 := by decide +kernel
theorem al_enc : encR [⟨1, -1, ⟨#[]⟩⟩] = [2, 2, 1] := by decide +kernel
theorem al_rightR : rightR [⟨1, -1, ⟨#[]⟩⟩] = true := by decide +kernel

theorem row_one (w : World) (x : Va) : RowIn (w.alloc (.cells #[.int .i64 x.k, .int .i64 x.n, .string x.s] 40)) (w.heap.size + 1) (some ⟨w.heap.size, 0, none⟩) [x] := by
  have h := Blk.new w 40 #[.int .i64 x.k, .int .i64 x.n, .string x.s]
  refine ⟨fun _ => ⟨_, rfl, Nat.lt_succ_self _⟩, fun i hi j u hu => ⟨_, rfl, ?_⟩⟩
  obtain rfl : i = 0 := by simp at hi; omega
  rw [addr_mid, Nat.zero_mul, Nat.zero_add, Nat.zero_add, h.cell j]
  simpa [vcell] using hu
theorem rd_lit (w : World) (l : List Int) : Rd (w.alloc (.cells (cells l).toArray 5)) (w.alloc (.cells (cells l).toArray 5)).heap.size (some ⟨w.heap.size, 0, none⟩) l.length (cells l) := by
  refine ⟨cells_len l, fun _ => ⟨_, rfl, by simp, fun j u hu => ?_⟩⟩
  rw [addr_mid, Nat.zero_add]
  have h := (Blk.new w 5 (cells l).toArray).cell j
  rw [h]; simpa using hu

set_option maxRecDepth 100000 in
set_option maxHeartbeats 3200000 in
theorem alive_any (w : World) : Calls Tryz.prog 4 #[] w (YesB w) := by
  have hread := fun w => read_of alS 3 0 alU alS w (fun w _ => by have := meant_quote alS w (by decide +kernel) (by decide); rw [al_unq] at this; exact this) (fun _ w _ => by have := show_any 3 0 alU w (by decide); rw [al_show] at this; exact this)
  rw [show (rightV 3 0 alU && decide (alS = alS)) = true by rw [al_right]; simp] at hread
  have HR := Lib.hid hread
  clear hread
  have heq := eqVal
  go_enter Tryz.func4, Tryz.ntmps4
  go_wp2_with fail
  refine (HR.out _).mono ?_
  rintro e w1 ⟨hb1, rfl⟩
  rw [if_pos rfl]
  have hv := VS.new w1 3 0 alU
  unfold alU at hv ⊢
  obtain ⟨w2, hw2⟩ : ∃ w2, w2 = w1.alloc (.cells #[.int .i64 3, .int .i64 0, .string ⟨#[97, 34, 98]⟩] 40) := ⟨_, rfl⟩
  rw [← hw2] at hv
  have HV2 := Lib.hid hv
  have HB2 := Lib.hid (hb1.trans (hv.2.2.2.mono hb1.size))
  have HW := Lib.hid hw2
  clear hw2 hv hb1
  go_wp2_with fail
  rw [← HW.out]
  have hsz2 : w2.heap.size = w1.heap.size + 1 := by rw [HW.out]; simp
  have hrow := row_one w2 ⟨1, -1, ⟨#[]⟩⟩
  rw [hsz2] at hrow
  refine (encode_any _ 1 [⟨1, -1, ⟨#[]⟩⟩] _ (by simpa [hsz2] using hrow) (by simp [maxLen]) (fun x hx => by simp at hx; subst hx; exact ⟨by decide, by decide, by decide⟩)).mono ?_
  rintro e w3 ⟨hb3, ⟨hf, _⟩ | ⟨_, v3, rfl, hown3⟩⟩
  · rw [al_rightR] at hf; cases hf
  rw [al_enc] at hown3
  obtain ⟨A3, c3, rfl, _, _⟩ := own_shape hown3
  have hb23 := ((Below.refl w2.heap.size w2).alloc (Nat.le_refl _) (.cells #[.int .i64 1, .int .i64 (-1), .string ⟨#[]⟩] 40)).trans (hb3.mono (by simp))
  have HV3 := Lib.hid (HV2.out.below hb23)
  have HB3 := Lib.hid (HB2.out.trans (hb23.mono HB2.out.size))
  have HO3 := Lib.hid hown3
  obtain ⟨d0, d1, d2, _⟩ := HV3.out
  clear hb3 hown3 hrow hb23
  go_wp2_with fail
  refine (sameBytes_yes A3 (some ⟨w3.heap.size, 0, none⟩) 3 c3 3 [2, 2, 1] _ w3.heap.size _ (by exact (Rd.of_own HO3.out).alloc (Nat.le_refl _) _) (rd_lit w3 [2, 2, 1]) (by decide)).mono ?_
  rintro e w4 ⟨rfl, q, hw4⟩
  have hb34 : Below w3.heap.size w3 w4 := by
    rw [hw4]
    exact ((Below.refl w3.heap.size w3).alloc (Nat.le_refl _) (.cells (cells [2, 2, 1]).toArray 5)).trans ⟨rfl, rfl, rfl, Nat.le_refl _, fun _ _ => rfl⟩
  have HV4 := Lib.hid (HV3.out.below hb34)
  have HB4 := Lib.hid (HB3.out.trans (hb34.mono HB3.out.size))
  clear hw4 hb34 d0 d1 d2
  go_wp2_with fail
  refine (order_any 0 0 ⟨#[]⟩ 1 0 ⟨#[]⟩ _).mono ?_
  rw [al_ord]
  rintro e w5 ⟨rfl, hb5⟩
  have HV5 := Lib.hid (HV4.out.below hb5)
  have HB5 := Lib.hid (HB4.out.trans (hb5.mono HB4.out.size))
  obtain ⟨d0, d1, d2, _⟩ := HV5.out
  clear hb5
  go_wp2_with fail
  have hsh := show_any 3 0 alU w5 (by decide)
  rw [al_show] at hsh
  refine hsh.mono ?_
  rintro e w6 ⟨rfl, hb6⟩
  have HB6 := Lib.hid (HB5.out.trans (hb6.mono HB5.out.size))
  clear hb6 d0 d1 d2 hsh
  unfold alS
  go_wp2
  go_ret
  exact ⟨rfl, HB6.out⟩
end Go.Proofs.YtkdcnkadngbccaaGreatDoor
