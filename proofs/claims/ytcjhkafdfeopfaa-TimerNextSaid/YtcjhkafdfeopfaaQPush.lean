/-
  The queue's Push.
-/
import Derived.Test.YtcjhkafdfeopfaaQDel
import Derived.Test.YtcjhkafdfeopfaaQSwap
namespace Go.Proofs.Ytcjhkafdfeopfaa
open Go.RowKit Go.Lib Go.Maps

section
variable {B tb mb n c : Nat} {D F : Nat → Prop} {w w' : World} {A : Option Addr} {f : Nat → Of}
theorem QX.push (h : QX B D w tb mb A c n f) {x : On} {b : Nat} {p0 : Value} (hb : Blk w b 53 #[.int .i64 x.i, .int .i64 x.t, p0]) (hdb : D b) (hne : ∀ k, k < n → (f k).2 ≠ b) {w1 w5 w6 : World} {A5 : Option Addr} {c5 : Nat}
    (hw1 : w1 = (w.setCell ⟨b, 2, none⟩ (.int .i64 n)).alloc (.cells #[ptrT b] 50)) (hR : RowTo B 50 1 (.slice A n c) w1 (.slice A5 (n + 1) c5) (n + 1) (ptrs n f ++ [ptrT b]) w5) (hw6 : w6 = w5.setCell ⟨tb, 0, none⟩ (.slice A5 (n + 1) c5)) :
    QX B (Ext D w w6) w6 tb mb A5 c5 (n + 1) (upd f n (x, b)) ∧ Chg D w w6 := by
  have hc1 : Chg (fun q => q = b) w w1 := by rw [hw1]; exact ((Chg.refl (fun q => q = b) w).setCell (p := ⟨b, 2, none⟩) (fun _ => rfl) _).alloc _
  have htb : tb ≠ b := h.blk.ne hb (by decide)
  have hrow1 : ∀ q, (Value.slice A n c).ownBlock = some q → q ≠ b := fun q hq e => own_ne h.row hb (by decide) (e ▸ hq)
  have hbt1 : Blk w1 tb 49 #[.slice A n c, .map (some mb)] := h.blk.chg hc1 htb
  have hb1 : Blk w1 b 53 (tmC x n) := by rw [hw1]; exact (hb.put 2 _).alloc _
  have hone1 : ∀ k, k < n → Blk w1 (f k).2 53 (tmC (f k).1 k) := fun k hk => (h.one k hk).chg hc1 (hne k hk)
  have hrw1 : w1.ownsRow B 50 1 (.slice A n c) n (ptrs n f) := own_chg h.row hc1 hrow1
  have hbt5 : Blk w5 tb 49 #[.slice A n c, .map (some mb)] := hbt1.chg hR.chg fun e => own_ne hrw1 hbt1 (by decide) e
  have hb5 : Blk w5 b 53 (tmC x n) := hb1.chg hR.chg fun e => own_ne hrw1 hb1 (by decide) e
  have hone5 : ∀ k, k < n → Blk w5 (f k).2 53 (tmC (f k).1 k) := fun k hk => (hone1 k hk).chg hR.chg fun e => own_ne hrw1 (hone1 k hk) (by decide) e
  have hc6 : Chg (fun q => q = tb) w5 w6 := by rw [hw6]; exact (Chg.refl (fun q => q = tb) w5).setCell (p := ⟨tb, 0, none⟩) (fun _ => rfl) _
  have hc : Chg D w w6 := ((hc1.mono (G := D) fun k _ e => e ▸ hdb).trans' hR.chg fun k _ hk => h.rd k hk).trans' hc6 fun k _ e => e ▸ h.td
  have s1 := hc1.size
  have s5 := hR.chg.size
  have s6 := hc6.size
  refine ⟨⟨by rw [hw6]; exact hbt5.put 0 _, ?_, fun k hk => ?_, fun q hq => ?_, fun k hk => ?_, .inl h.td, fun k hk => ?_⟩, hc⟩
  · have e1 : ptrs (n + 1) (upd f n (x, b)) = ptrs n f ++ [ptrT b] := by
      rw [ptrs_succ, show (upd f n (x, b) n).2 = b by unfold upd; rw [if_pos rfl], ptrs_ext (g := f) fun k hk => by unfold upd; rw [if_neg (by omega)]]
    rw [e1]
    exact own_chg hR.own hc6 fun k hk e => own_ne hR.own hbt5 (by decide) (e ▸ hk)
  · unfold upd
    by_cases e : k = n
    · rw [if_pos e, e]
      exact hb5.chg hc6 htb.symm
    · rw [if_neg e]
      exact (hone5 k (by omega)).chg hc6 (h.ne_tb (by omega))
  · have hl := hR.own.lt q hq
    rcases hR.blk q hq with hq' | hq'
    · exact .inl (h.rd q hq')
    · exact .inr ⟨by omega, by omega⟩
  · unfold upd
    split
    · exact .inl hdb
    · exact .inl (h.od k (by omega))
  · have hf := h.foot tb h.td
    rcases hk with hk | hk
    · have := h.foot k hk
      omega
    · omega
theorem run_ta (v : Value) (w : World) : (Instr.typeAssert (.iface 50 v) 20 50 false).run Try.prog w = .ok v w := by kernel_rfl
theorem Try.infotm : (Try.prog.info? 50).map (fun i => (i.zero, i.size, i.bytes)) = some (some (.pointer none), 1, 8) := by kernel_rfl
set_option maxRecDepth 100000 in
set_option maxHeartbeats 12800000 in
theorem push_any (h : QX B D w tb mb A c n f) {x : On} {b : Nat} {p0 : Value} (hb : Blk w b 53 #[.int .i64 x.i, .int .i64 x.t, p0]) (hdb : D b) (hne : ∀ k, k < n → (f k).2 ≠ b) (hn : n < 1000000) :
    Calls Try.prog 46 #[.pointer (some ⟨tb, 0, none⟩), .iface 50 (ptrT b)] w fun e w' => e = .returned (.tuple #[]) ∧ ∃ A' c', QX B (Ext D w w') w' tb mb A' c' (n + 1) (upd f n (x, b)) ∧ Chg D w w' := by
  obtain ⟨i0, hi, hz0, hz1, hz2⟩ := info_parts Try.infotm
  have c0 := h.cell0
  have cb := hb.cell 2
  have fb := hb.frozen 2
  simp only [List.getElem?_toArray, List.getElem?_cons_succ, List.getElem?_cons_zero] at cb
  have htb : b ≠ tb := (h.blk.ne hb (by decide)).symm
  have hB : B ≤ w.heap.size := by have := h.foot tb h.td; omega
  obtain ⟨w1, hw1⟩ : ∃ w1, w1 = (w.setCell ⟨b, 2, none⟩ (.int .i64 n)).alloc (.cells #[ptrT b] 50) := ⟨_, rfl⟩
  have hc1 : Chg (fun q => q = b) w w1 := by rw [hw1]; exact ((Chg.refl (fun q => q = b) w).setCell (p := ⟨b, 2, none⟩) (fun _ => rfl) _).alloc _
  have hrw1 : w1.ownsRow B 50 1 (.slice A n c) n (ptrs n f) := own_chg h.row hc1 fun q hq e => own_ne h.row hb (by decide) (e ▸ hq)
  have hcp : ∀ ad : Addr, some (⟨w.heap.size, 0, none⟩ : Addr) = some ad → ∀ j u, [ptrT b][j]? = some u → w1.cell? (ad.add j) = some u := by
    intro ad had
    cases had
    have h9 : (w.setCell ⟨b, 2, none⟩ (.int .i64 n)).heap.size = w.heap.size := by simp [World.setCell]
    have h8 := heap_alloc_new (w.setCell ⟨b, 2, none⟩ (.int .i64 n)) (.cells #[ptrT b] 50)
    rw [h9, ← hw1] at h8
    exact World.news_of_block h8
  have hbt1 : Blk w1 tb 49 #[.slice A n c, .map (some mb)] := h.blk.chg hc1 htb.symm
  have hfin := fun A5 c5 w5 hR => h.push hb hdb hne (w1 := w1) (w5 := w5) (A5 := A5) (c5 := c5) hw1 hR rfl
  have HF := Lib.hid hfin
  have HR := Lib.hid (And.intro hrw1 (And.intro hcp (And.intro hB (And.intro hc1.size hbt1))))
  have HW := Lib.hid hw1
  have hn0 : (0 : Int) ≤ (n : Int) := Int.natCast_nonneg _
  clear h hb hdb hne hfin hrw1 hcp hB hbt1 hc1 hw1
  unfold ptrT
  unfold ptrT at HW
  have hta := run_ta (.pointer (some ⟨b, 0, none⟩)) w
  go_enter Try.func46, Try.ntmps46
  go_upto_region 2 with fail
  go_wp2_with (at_builtin; rw [← HW.out]; refine wpList_append_row rfl _ _ 47 rfl B 50 i0 (.pointer none) 1 8 Try.underlying47 hi hz0 hz1 hz2 rfl (by decide) _ n _ HR.out.1 (by rfl) (some ⟨w.heap.size, 0, none⟩) 1 1 [ptrT b] (by rfl) rfl (fun h => by cases h) HR.out.2.1 (by simp [ptrT, Value.oneCell']) (by simp [maxLen]; omega) (by omega) (by have := HR.out.2.2.1; have := HR.out.2.2.2.1; omega) ?_; intro A5 c5 w5 hR5; have hb5 := HR.out.2.2.2.2.chg hR5.chg fun e => own_ne HR.out.1 HR.out.2.2.2.2 (by decide) e; have e5 : w5.cell? ⟨tb, 0, none⟩ = some (.slice A n c) := hb5.cell 0; have f5 := hb5.frozen 0; have HR5 := Lib.hid hR5; clear hR5 hb5)
  go_end0
  exact ⟨rfl, _, _, HF.out _ _ _ HR5.out⟩
end
end Go.Proofs.Ytcjhkafdfeopfaa
