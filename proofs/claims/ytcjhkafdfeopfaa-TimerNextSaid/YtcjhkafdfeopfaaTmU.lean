/-
  The document's timers: Due.
-/
import Derived.Test.YtcjhkafdfeopfaaTmS
namespace Go.Proofs.Ytcjhkafdfeopfaa
open Go.RowKit Go.Lib

theorem Try.infoint : (Try.prog.info? 3).map (fun i => (i.zero, i.size, i.bytes)) = some (some (.int .i64 0), 1, 8) := by kernel_rfl
def ids (l : List On) : List Value := l.map fun x => .int .i64 x.i
theorem ids_append (a b : List On) : ids (a ++ b) = ids a ++ ids b := by simp [ids]
def lenV : Value → Nat
  | .slice _ n _ => n
  | _ => 0
/-- the first is let go -/
theorem RmX.pop {B tb n c : Nat} {D : Nat → Prop} {w : World} {ad : Addr} {x : On} {r : List On} (h : RmX B D w tb (some ad) n c (x :: r)) (A' : Option Addr) (hA : (c = 1 ∧ A' = some ad) ∨ A' = some (ad.add 2)) :
    RmX B D (w.setCell ⟨tb, 0, none⟩ (.slice A' (n - 1) (c - 1))) tb A' (n - 1) (c - 1) r ∧ Chg (fun k => k = tb) w (w.setCell ⟨tb, 0, none⟩ (.slice A' (n - 1) (c - 1))) := by
  have hc6 : Chg (fun k => k = tb) w (w.setCell ⟨tb, 0, none⟩ (.slice A' (n - 1) (c - 1))) := (Chg.refl (fun k => k = tb) w).setCell (p := ⟨tb, 0, none⟩) (fun _ => rfl) _
  have hlen : n = r.length + 1 := h.len
  have hn1 := h.cap
  have hblk : ∀ ad', A' = some ad' → ad'.block = ad.block := fun ad' he => by
    rcases hA with ⟨_, e⟩ | e
    · rw [e] at he; cases he; rfl
    · rw [e] at he; cases he; rw [addr_block]
  have hne : ∃ ad', A' = some ad' := by
    rcases hA with ⟨_, e⟩ | e <;> exact ⟨_, e⟩
  have hD := h.ard ad rfl (by omega)
  have hrow : ∀ i (hi : i < r.length) j u, (onC r[i])[j]? = some u → w.cell? ((ad.add 2).add (i * 2 + j)) = some u := fun i hi j u hu => by
    obtain ⟨ad', e, hc⟩ := h.row.cell (i + 1) (by simpa using hi) j u (by simpa using hu)
    obtain rfl := Option.some.inj e
    rw [addr_add, show 2 + (i * 2 + j) = (i + 1) * 2 + j by omega]
    exact hc
  refine ⟨⟨h.blk.put 0 _, by omega, by omega, fun e => (by obtain ⟨ad', e2⟩ := hne; rw [e2] at e; cases e), ⟨fun h0 => ?_, fun i hi j u hu => ?_⟩, fun ad' ha h0 => (by rw [hblk ad' ha]; exact hD), h.db, fun k hk => ⟨(h.foot k hk).1, (by have := (h.foot k hk).2; simpa using this)⟩⟩, hc6⟩
  · obtain ⟨ad', e⟩ := hne
    refine ⟨ad', e, ?_⟩
    rw [hblk ad' e]
    simpa using (h.foot _ hD.1).2
  · rcases hA with ⟨e1, _⟩ | e
    · exfalso; omega
    · refine ⟨ad.add 2, e, ?_⟩
      have h1 := hrow i hi j u hu
      refine (hc6.cell (p := (ad.add 2).add (i * 2 + j)) ?_ ?_).trans h1
      · rw [addr_block, addr_block]; exact (h.foot _ hD.1).2
      · rw [addr_block, addr_block]; exact hD.2
theorem due_at {now : Int} : ∀ (l : List On) (k : Nat), k ≤ (dueO now l).length → (h : k < l.length) → (k < (dueO now l).length ↔ l[k].t ≤ now)
  | a :: r, k, hk, h => by
    by_cases ha : a.t ≤ now
    · have e : dueO now (a :: r) = a :: dueO now r := by unfold dueO; rw [List.takeWhile_cons, if_pos (by simpa using ha)]
      rw [e] at hk ⊢
      cases k with
      | zero => simp [ha]
      | succ k =>
        have ih := due_at (now := now) r k (by simpa using hk) (by simpa using h)
        simpa using ih
    · have e : dueO now (a :: r) = [] := by unfold dueO; rw [List.takeWhile_cons, if_neg (by simpa using ha)]
      rw [e] at hk ⊢
      obtain rfl : k = 0 := by simpa using hk
      simp [ha]
theorem due_take (now : Int) (l : List On) : l.take (dueO now l).length = dueO now l ∧ l.drop (dueO now l).length = restO now l := by
  have h := due_rest now l
  have h1 : (dueO now l ++ restO now l).take (dueO now l).length = dueO now l := List.take_left
  have h2 : (dueO now l ++ restO now l).drop (dueO now l).length = restO now l := List.drop_left
  rw [h] at h1 h2
  exact ⟨h1, h2⟩
def DuRel (B tb : Nat) (D : Nat → Prop) (w : World) (l : List On) (p : Nat) (ov : Value) (wr : World) : Prop :=
  ∃ (k : Nat) (A : Option Addr) (n c : Nat) (Ao : Option Addr) (co : Nat), k ≤ p ∧ ov = .slice Ao k co ∧ RmX B D wr tb A n c (l.drop k) ∧ wr.ownsRow w.heap.size 3 1 (.slice Ao k co) k (ids (l.take k)) ∧ Chg D w wr
set_option maxRecDepth 100000 in
set_option maxHeartbeats 12800000 in
theorem rdue_any {B tb : Nat} {D : Nat → Prop} {w : World} {l : List On} (h : RmV B D w tb l) (hl : l.length ≤ 900000) (now : Int) :
    Calls Try.prog 17 #[.pointer (some ⟨tb, 0, none⟩), .int .i64 now] w fun r w' => ∃ A n c, r = .returned (.slice A n c) ∧ n = (dueO now l).length ∧ w'.ownsRow w.heap.size 3 1 (.slice A n c) n (ids (dueO now l)) ∧ RmTo B tb D w (restO now l) w' := by
  obtain ⟨i0, hi, hz0, hz1, hz2⟩ := info_parts Try.infoint
  obtain ⟨A0, n0, c0', hX⟩ := h
  obtain ⟨p, hp⟩ : ∃ p, p = (dueO now l).length := ⟨_, rfl⟩
  have hpl : p ≤ l.length := by rw [hp]; exact (List.takeWhile_sublist _).length_le
  have hpb : p ≤ 900000 := by omega
  obtain ⟨w1, hw1⟩ : ∃ w1, w1 = w.alloc (.cells #[] 3) := ⟨_, rfl⟩
  have hb1 : Below w.heap.size w w1 := by rw [hw1]; exact (Below.refl _ w).alloc (Nat.le_refl _) _
  have ho1 : w1.ownsRow w.heap.size 3 1 (.slice (some ⟨w.heap.size, 0, none⟩) 0 0) 0 (ids (l.take 0)) := by
    rw [hw1]
    have h9 := World.ownsRow_lit (base := w.heap.size) (size := 1) (e := 3) w #[] 0 (by simp) (by simp [maxLen]) (by simp)
    exact h9
  have H0 := Lib.hid (show DuRel B tb D w l p (.slice (some ⟨w.heap.size, 0, none⟩) 0 0) w1 from ⟨0, A0, n0, c0', _, 0, Nat.zero_le _, rfl, hX.below hb1, ho1, Chg.of_below hb1⟩)
  have HP := Lib.hid (And.intro hp hpl)
  have HF := Lib.hid (show ∀ k, D k → k < w.heap.size from fun k hk => (hX.foot k hk).2)
  have HDB := Lib.hid (show D tb from hX.db)
  have HL := Lib.hid (And.intro hl (show ∀ k, D k → B ≤ k from fun k hk => (hX.foot k hk).1))
  have HBW := Lib.hid (show B ≤ w.heap.size from by have := hX.foot _ hX.db; omega)
  have HW1 := Lib.hid hw1
  clear hX hb1 ho1 hp hpl hw1 hl
  go_enter Try.func17, Try.ntmps17
  go_wp2_with fail
  rw [← HW1.out]
  go_loopw [5] (fun ov wr => DuRel B tb D w l p ov wr) (fun ov _ => p - lenV ov)
  case atStart => exact H0.out
  case round =>
    obtain ⟨k, A, n, c, Ao, co, hk, rfl, hX, ho, hch⟩ := hrel
    have hlen := hX.len
    rw [List.length_drop] at hlen
    have c0 := hX.cell
    have hn0 : (0 : Int) ≤ (n : Int) := Int.natCast_nonneg _
    have hnb : n ≤ 900000 := by have := HL.out.1; omega
    have hnc := hX.cap.1
    have hcm := hX.cap.2
    unfold maxLen at hcm
    have HR := Lib.hid (And.intro hX (And.intro ho (And.intro hch hlen)))
    clear hX ho hch hlen
    go_upto_region 2 with fail
    go_cut [23] (fun v wx => v = .bool (decide (k < p)) ∧ wx = wr)
    case first =>
      by_cases hlt : 0 < n
      · have hlt1 : (0 : Int) < (n : Int) := by omega
        have hltd : decide ((0 : Int) < (n : Int)) = true := decide_eq_true hlt1
        obtain ⟨ad, hkl, rfl, d0, d1⟩ := HR.out.1.at_ (i := 0) hlt
        rw [Nat.zero_mul, show ad.add 0 = ad by unfold Addr.add; simp] at d0 d1
        have hkl2 : k < l.length := by have := HR.out.2.2.2; omega
        have hiff := due_at (now := now) l k (by rw [← HP.out.1]; exact hk) hkl2
        rw [← HP.out.1] at hiff
        have hget : (l.drop k)[0] = l[k] := by rw [List.getElem_drop]; rfl
        rw [hget] at d0 d1
        obtain ⟨y, hy⟩ : ∃ y, y = l[k] := ⟨_, rfl⟩
        rw [← hy] at d0 d1 hiff
        have HIFF := Lib.hid hiff
        clear hy hiff hget
        by_cases h1 : y.t ≤ now
        · have b1 : decide (y.t ≤ now) = true := decide_eq_true h1
          have hv : decide (k < p) = true := decide_eq_true (HIFF.out.2 h1)
          go_wp2_with fail
          go_meet
          exact ⟨congrArg Value.bool hv.symm, rfl⟩
        · have b1 : decide (y.t ≤ now) = false := decide_eq_false h1
          have hv : decide (k < p) = false := decide_eq_false fun hh => h1 (HIFF.out.1 hh)
          go_wp2_with fail
          go_meet
          exact ⟨congrArg Value.bool hv.symm, rfl⟩
      · have hlt1 : ¬ (0 : Int) < (n : Int) := by omega
        have hltd : decide ((0 : Int) < (n : Int)) = false := decide_eq_false hlt1
        have hv : decide (k < p) = false := decide_eq_false (by have := HR.out.2.2.2; have := HP.out.2; omega)
        go_wp2_with fail
        go_meet
        exact ⟨congrArg Value.bool hv.symm, rfl⟩
    case rest =>
      obtain ⟨rfl, hwx⟩ := hcut
      have hwx' := hwx.symm
      clear hwx
      subst hwx'
      by_cases hgo : k < p
      · have b3 : decide (k < p) = true := decide_eq_true hgo
        have hkl : k < l.length := by have := HP.out.2; omega
        have hn1 : 0 < n := by have := HR.out.2.2.2; omega
        obtain ⟨ad, hkl0, rfl, d0, d1⟩ := HR.out.1.at_ (i := 0) hn1
        rw [Nat.zero_mul, show ad.add 0 = ad by unfold Addr.add; simp] at d0 d1
        have hget : (l.drop k)[0] = l[k] := by rw [List.getElem_drop]; rfl
        rw [hget] at d0 d1
        have htk : l.take (k + 1) = l.take k ++ [l[k]] := List.take_succ_eq_append_getElem hkl
        have hdk : l.drop k = l[k] :: l.drop (k + 1) := List.drop_eq_getElem_cons hkl
        obtain ⟨y, hy⟩ : ∃ y, y = l[k] := ⟨_, rfl⟩
        rw [← hy] at d0 d1 htk hdk
        have HTK := Lib.hid (And.intro htk hdk)
        have hni : (0 : Int) < (n : Int) := by omega
        have hn1i : (1 : Int) ≤ (n : Int) := by omega
        have hc1i : (1 : Int) ≤ (c : Int) := by omega
        have hnci : (n : Int) ≤ (c : Int) := by omega
        rw [b3]
        clear hy hget htk hdk d1 hkl0
        go_upto_region 4 with (at_builtin; refine wpList_append_row rfl _ _ 37 rfl w.heap.size 3 i0 (.int .i64 0) 1 8 Try.underlying37 hi hz0 hz1 hz2 rfl (by decide) _ k _ (own_chg HR.out.2.1 (F := Non) ((Chg.refl _ wr).alloc _) fun _ _ hf => hf) (by rfl) (some ⟨wr.heap.size, 0, none⟩) 1 1 [.int .i64 y.i] (by rfl) rfl (fun h => by cases h) (fun ad' had => by cases had; exact World.news_of_block (heap_alloc_new wr _)) (by simp [Value.oneCell']) (by simp [maxLen]; omega) (by omega) (by have := HR.out.2.2.1.size; simp; omega) ?_; intro A5 c5 w5 hR5; have HR5 := Lib.hid hR5; clear hR5)
        have hch5 : Chg (fun q => w.heap.size ≤ q) wr w5 := ((Chg.refl (fun q => w.heap.size ≤ q) wr).alloc _).trans' HR5.out.chg fun q _ hq => (HR.out.2.1.lt q hq).1
        have hX5 := HR.out.1.chg hch5 fun q hq hf => by have := HF.out q hq; omega
        rw [HTK.out.2] at hX5
        have e5 := hX5.cell
        have f5 := hX5.blk.frozen 0
        have H5 := Lib.hid (And.intro hch5 hX5)
        clear hch5 hX5 c0 d0
        by_cases hcz : c = 1
        · subst hcz
          obtain rfl : n = 1 := by omega
          have hpop := H5.out.2.pop (some ad) (.inl ⟨rfl, rfl⟩)
          have ho6 := own_chg HR5.out.own hpop.2 (fun q hq he => by have := HF.out _ HDB.out; have := (HR5.out.own.lt q hq).1; have e2 : q = tb := he; omega)
          have HFF := Lib.hid (show DuRel B tb D w l p (.slice A5 (k + 1) c5) (w5.setCell ⟨tb, 0, none⟩ (.slice (some ad) 0 0)) from ⟨k + 1, _, _, _, _, _, by omega, rfl, hpop.1, by rw [HTK.out.1, ids_append]; exact ho6, (HR.out.2.2.1.trans' H5.out.1 fun q hq hf => by omega).trans' hpop.2 fun q _ hf => by rw [hf]; exact HDB.out⟩)
          clear hpop ho6
          go_wp2_with fail
          go_roundw
          case rel => exact HFF.out
          case measure => simp [lenV]; omega
        · have hcz0 : ¬ (c - 1 = 0) := by omega
          have hcz1 : ((c - 1) == 0) = false := by rw [beq_eq_false_iff_ne]; exact hcz0
          have hpop := H5.out.2.pop (some (ad.add 2)) (.inr rfl)
          have ho6 := own_chg HR5.out.own hpop.2 (fun q hq he => by have := HF.out _ HDB.out; have := (HR5.out.own.lt q hq).1; have e2 : q = tb := he; omega)
          have HFF := Lib.hid (show DuRel B tb D w l p (.slice A5 (k + 1) c5) (w5.setCell ⟨tb, 0, none⟩ (.slice (some (ad.add 2)) (n - 1) (c - 1))) from ⟨k + 1, _, _, _, _, _, by omega, rfl, hpop.1, by rw [HTK.out.1, ids_append]; exact ho6, (HR.out.2.2.1.trans' H5.out.1 fun q hq hf => by omega).trans' hpop.2 fun q _ hf => by rw [hf]; exact HDB.out⟩)
          clear hpop ho6
          go_wp2_with fail
          go_roundw
          case rel => exact HFF.out
          case measure => simp [lenV]; omega
      · have b3 : decide (k < p) = false := decide_eq_false hgo
        rw [b3]
        obtain rfl : k = p := by omega
        have hfin : k = (dueO now l).length ∧ wr.ownsRow w.heap.size 3 1 (.slice Ao k co) k (ids (dueO now l)) ∧ RmTo B tb D w (restO now l) wr := by
          have h1 := due_take now l
          rw [← HP.out.1] at h1
          refine ⟨HP.out.1, by rw [← h1.1]; exact HR.out.2.1, ⟨A, n, c, ?_⟩, HR.out.2.2.1⟩
          rw [← h1.2]
          exact HR.out.1.more (fun q hq => .inl hq) fun q hq => hq.elim (fun h => HR.out.1.foot q h) fun h => ⟨Nat.le_trans HBW.out h.1, h.2⟩
        have HFIN := Lib.hid hfin
        clear hfin
        go_wp2_with fail
        go_ret
        exact ⟨Ao, k, co, rfl, HFIN.out⟩
end Go.Proofs.Ytcjhkafdfeopfaa
