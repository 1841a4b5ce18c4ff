/-
  The document's timers in memory: a list that lies anywhere; At, Next.
-/
import Derived.Test.YtcjhkafdfeopfaaRowR
import Derived.Test.YtcjhkafdfeopfaaRows
import Derived.Test.YtcjhkafdfeopfaaChecked
import Derived.WalkSpells
import Derived.WalkLawsBesides
import Derived.Lib.Hide
import Derived.Laws.StructEq
import Derived.Deep.QuietTactic
import Derived.BigQuiet
namespace Go.Proofs.Ytcjhkafdfeopfaa
open Go.RowKit Go.Lib

def onC (x : On) : List Value := [.int .i64 x.i, .int .i64 x.t]
def oncs (l : List On) : List Value := l.flatMap onC
theorem oncs_append (a b : List On) : oncs (a ++ b) = oncs a ++ oncs b := by simp [oncs]
theorem oncs_len (l : List On) : (oncs l).length = l.length * 2 := by
  induction l with
  | nil => rfl
  | cons a l ih =>
    show (onC a ++ oncs l).length = _
    rw [List.length_append, ih, List.length_cons]
    show 2 + _ = _
    omega
theorem oncs_one (l : List On) : ∀ u ∈ oncs l, u.oneCell' = true := by
  intro u hu
  obtain ⟨x, _, hx⟩ := List.mem_flatMap.1 hu
  simp [onC] at hx
  rcases hx with rfl | rfl <;> rfl
/-- the document's timers: their block, where their list lies, the list; all in the footprint D -/
structure RmX (B : Nat) (D : Nat → Prop) (w : World) (tb : Nat) (A : Option Addr) (n c : Nat) (l : List On) : Prop where
  blk : Blk w tb 29 #[.slice A n c]
  len : n = l.length
  cap : n ≤ c ∧ c ≤ maxLen
  nil : A = none → c = 0
  row : RowG onC 2 w w.heap.size A l
  ard : ∀ ad, A = some ad → 0 < n → D ad.block ∧ ad.block ≠ tb
  db : D tb
  foot : ∀ k, D k → B ≤ k ∧ k < w.heap.size
def RmV (B : Nat) (D : Nat → Prop) (w : World) (tb : Nat) (l : List On) : Prop := ∃ A n c, RmX B D w tb A n c l
/-- what a call that changes them leaves -/
def RmTo (B tb : Nat) (D : Nat → Prop) (w : World) (l : List On) (w' : World) : Prop := RmV B (Ext D w w') w' tb l ∧ Chg D w w'
section
variable {B tb n c : Nat} {D F : Nat → Prop} {w w' : World} {A : Option Addr} {l : List On}
theorem RmX.chg (h : RmX B D w tb A n c l) (hc : Chg F w w') (hd : ∀ k, D k → ¬ F k) : RmX B D w' tb A n c l := by
  refine ⟨h.blk.chg hc (hd _ h.db), h.len, h.cap, h.nil, ⟨fun h0 => ?_, fun i hi j u hu => ?_⟩, h.ard, h.db, fun k hk => ⟨(h.foot k hk).1, Nat.lt_of_lt_of_le (h.foot k hk).2 hc.size⟩⟩
  · obtain ⟨ad, rfl, hlt⟩ := h.row.lo h0
    exact ⟨ad, rfl, Nat.lt_of_lt_of_le hlt hc.size⟩
  · obtain ⟨ad, rfl, hcell⟩ := h.row.cell i hi j u hu
    have hD := (h.ard ad rfl (by have := h.len; omega)).1
    refine ⟨ad, rfl, (hc.cell (p := ad.add (i * 2 + j)) ?_ ?_).trans hcell⟩
    · rw [addr_block]; exact (h.foot _ hD).2
    · rw [addr_block]; exact hd _ hD
theorem RmX.below (h : RmX B D w tb A n c l) (hb : Below w.heap.size w w') : RmX B D w' tb A n c l := h.chg (F := Non) (Chg.of_below hb) fun _ _ hf => hf
theorem RmX.more {D' : Nat → Prop} (h : RmX B D w tb A n c l) (hD : ∀ k, D k → D' k) (hf : ∀ k, D' k → B ≤ k ∧ k < w.heap.size) : RmX B D' w tb A n c l := ⟨h.blk, h.len, h.cap, h.nil, h.row, fun ad ha h0 => ⟨hD _ (h.ard ad ha h0).1, (h.ard ad ha h0).2⟩, hD _ h.db, hf⟩
theorem RmV.more {D' : Nat → Prop} (h : RmV B D w tb l) (hD : ∀ k, D k → D' k) (hf : ∀ k, D' k → B ≤ k ∧ k < w.heap.size) : RmV B D' w tb l := by
  obtain ⟨A, n, c, h⟩ := h
  exact ⟨A, n, c, h.more hD hf⟩
theorem RmV.chg (h : RmV B D w tb l) (hc : Chg F w w') (hd : ∀ k, D k → ¬ F k) : RmV B D w' tb l := by
  obtain ⟨A, n, c, h⟩ := h
  exact ⟨A, n, c, h.chg hc hd⟩
theorem RmV.below (h : RmV B D w tb l) (hb : Below w.heap.size w w') : RmV B D w' tb l := h.chg (F := Non) (Chg.of_below hb) fun _ _ hf => hf
theorem RmV.foot (h : RmV B D w tb l) {k : Nat} (hk : D k) : B ≤ k ∧ k < w.heap.size := by
  obtain ⟨A, n, c, h⟩ := h
  exact h.foot k hk
theorem RmX.cell (h : RmX B D w tb A n c l) : w.cell? ⟨tb, 0, none⟩ = some (.slice A n c) := h.blk.cell 0
theorem RmX.at_ (h : RmX B D w tb A n c l) {i : Nat} (hi : i < n) : ∃ (ad : Addr) (h2 : i < l.length), A = some ad ∧ w.cell? (ad.add (i * 2)) = some (.int .i64 l[i].i) ∧ w.cell? ⟨(ad.add (i * 2)).block, (ad.add (i * 2)).off + 1, none⟩ = some (.int .i64 l[i].t) := by
  have hil : i < l.length := by rw [← h.len]; exact hi
  obtain ⟨ad, rfl, hlt⟩ := h.row.lo (by omega)
  have get : ∀ j u, (onC l[i])[j]? = some u → w.cell? (ad.add (i * 2 + j)) = some u := fun j u hu => by
    obtain ⟨ad', e, hc⟩ := h.row.cell i hil j u hu
    obtain rfl := Option.some.inj e
    exact hc
  have addr_field : ∀ (a : Addr) (j : Nat), 0 < j → (⟨a.block, a.off + j, none⟩ : Addr) = a.add j := fun a j hj => by unfold Addr.add; rw [if_neg (by omega)]
  refine ⟨ad, hil, rfl, get 0 _ rfl, ?_⟩
  rw [addr_field _ _ (by omega), addr_add]
  exact get 1 _ rfl
end
theorem RmTo.trans {B tb : Nat} {D : Nat → Prop} {w w2 w3 : World} {l2 l3 : List On} (h : RmTo B tb D w l2 w2) (k : RmTo B tb (Ext D w w2) w2 l3 w3) (hf : ∀ k, D k → B ≤ k) (hB : B ≤ w.heap.size) : RmTo B tb D w l3 w3 := by
  have s2 := h.2.size
  have s3 := k.2.size
  refine ⟨k.1.more (fun q hq => ?_) fun q hq => ?_, h.2.trans' k.2 fun q hq hk => hk.elim id fun hk => by omega⟩
  · rcases hq with (hq | hq) | hq
    · exact .inl hq
    · exact .inr ⟨hq.1, by omega⟩
    · exact .inr ⟨by omega, hq.2⟩
  · rcases hq with hq | hq
    · exact ⟨hf q hq, (k.1.foot (.inl (.inl hq))).2⟩
    · exact ⟨by omega, hq.2⟩
/-- the times' answer -/
def tmRes : Option Int → Value
  | some t => .tuple #[.int .i64 t, .bool true]
  | none => .tuple #[.int .i64 0, .bool false]
theorem atO_step {id : Int} {l : List On} {k : Nat} (hk : k < l.length) : atO id (l.drop k) = if l[k].i = id then some l[k].t else atO id (l.drop (k + 1)) := by
  rw [List.drop_eq_getElem_cons hk, atO]
set_option maxRecDepth 100000 in
set_option maxHeartbeats 3200000 in
theorem rat_any {B tb : Nat} {D : Nat → Prop} {w : World} {l : List On} (h : RmV B D w tb l) (hl : l.length ≤ 1000000) (id : Int) :
    Calls Try.prog 14 #[.pointer (some ⟨tb, 0, none⟩), .int .i64 id] w fun r w' => r = .returned (tmRes (atO id l)) ∧ w' = w := by
  obtain ⟨A, n, c, hX⟩ := h
  have c0 := hX.cell
  have hn : n ≤ 1000000 := by rw [hX.len]; exact hl
  have hn0 : (0 : Int) ≤ (n : Int) := Int.natCast_nonneg _
  have H := Lib.hid hX
  clear hX hl
  go_enter Try.func14, Try.ntmps14
  go_wp2_with fail
  go_loop [6] (fun i => ∃ k : Nat, k ≤ n ∧ i = .int .i64 k ∧ atO id (l.drop k) = atO id l) (fun i => n - (intOf i).toNat)
  case atStart => exact ⟨0, Nat.zero_le _, rfl, by rw [List.drop_zero]⟩
  case round =>
    obtain ⟨k, hk, rfl, hat⟩ := hrel
    have hk0 : (0 : Int) ≤ (k : Int) := Int.natCast_nonneg _
    have HAT := Lib.hid hat
    clear hat
    by_cases hlt : k < n
    · have hlt1 : (k : Int) < (n : Int) := by omega
      obtain ⟨ad, hkl, rfl, d0, d1⟩ := H.out.at_ hlt
      have hst := atO_step (id := id) hkl
      obtain ⟨x, hx⟩ : ∃ x, x = l[k] := ⟨_, rfl⟩
      rw [← hx] at d0 d1 hst
      have HST := Lib.hid hst
      clear hx hst
      by_cases he : x.i = id
      · have hq : (x.i == id) = true := by simp [he]
        have hqd : decide (x.i = id) = true := decide_eq_true he
        have HE := Lib.hid he
        clear he
        go_wp2_with fail
        go_ret2
        rw [← HAT.out, HST.out, if_pos HE.out]
        exact ⟨rfl, rfl⟩
      · have hq : (x.i == id) = false := by simp [he]
        have hqd : decide (x.i = id) = false := decide_eq_false he
        have HE := Lib.hid he
        clear he
        go_wp2_with fail
        go_round
        case rel => exact ⟨k + 1, by omega, by go_num, by rw [← HAT.out, HST.out, if_neg HE.out]⟩
        case measure => simp [intOf]; omega
    · have hlt1 : ¬ (k : Int) < (n : Int) := by omega
      go_wp2_with fail
      go_ret2
      rw [← HAT.out, List.drop_eq_nil_of_le (by rw [← H.out.len]; omega)]
      exact ⟨rfl, rfl⟩
set_option maxRecDepth 100000 in
set_option maxHeartbeats 3200000 in
theorem rnext_any {B tb : Nat} {D : Nat → Prop} {w : World} {l : List On} (h : RmV B D w tb l) :
    Calls Try.prog 19 #[.pointer (some ⟨tb, 0, none⟩)] w fun r w' => r = .returned (tmRes (nextO l)) ∧ w' = w := by
  obtain ⟨A, n, c, hX⟩ := h
  have c0 := hX.cell
  have H := Lib.hid hX
  clear hX
  cases l with
  | nil =>
    have hn := H.out.len
    obtain rfl : n = 0 := hn
    go_enter Try.func19, Try.ntmps19
    go_wp2_with fail
    go_ret2
    exact ⟨rfl, rfl⟩
  | cons x r =>
    obtain ⟨ad, _, rfl, d0, d1⟩ := H.out.at_ (i := 0) (by rw [H.out.len]; simp)
    have hn1 : 1 ≤ n := by rw [H.out.len]; simp
    have hz : ((n : Int) == 0) = false := by rw [beq_eq_false_iff_ne]; omega
    have hni : (0 : Int) < (n : Int) := by omega
    rw [Nat.zero_mul, show ad.add 0 = ad by unfold Addr.add; simp] at d0 d1
    simp only [List.getElem_cons_zero] at d0 d1
    go_enter Try.func19, Try.ntmps19
    go_wp2_with fail
    go_ret2
    exact ⟨rfl, rfl⟩
end Go.Proofs.Ytcjhkafdfeopfaa
