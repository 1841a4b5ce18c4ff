/-
  The contracts of Slots and Cut at any bytes.
-/
import Derived.Test.YtdnegfjddpdmhaaDoorFnD
namespace Go.Proofs.YtdnegfjddpdmhaaDoor
open Go.RowKit Go.Lib

def cells64 (l : List Int) : List Value := l.map (Value.int .i64)
theorem cells64_len (l : List Int) : (cells64 l).length = l.length := by simp [cells64]
theorem Tryd.dkinfo3 : (Tryd.prog.info? 3).map (fun i => (i.zero, i.size, i.bytes)) = some (some (.int .i64 0), 1, 8) := by kernel_rfl

/-- the slots below k that aren't free -/
def slotsN (s : List Slot) (k : Nat) : List Int := ((List.range k).filter fun i => ((s[i]?).getD none).isSome).map fun i : Nat => (i : Int)
theorem slotsN_zero (s : List Slot) : slotsN s 0 = [] := rfl
theorem slotsN_no {s : List Slot} {k : Nat} (h : s[k]? = some none) : slotsN s (k + 1) = slotsN s k := by
  simp [slotsN, List.range_succ, List.filter_append, h]
theorem slotsN_yes {s : List Slot} {k : Nat} {b : List Int} (h : s[k]? = some (some b)) : slotsN s (k + 1) = slotsN s k ++ [(k : Int)] := by
  simp [slotsN, List.range_succ, List.filter_append, h]
theorem slotsN_le (s : List Slot) (k : Nat) : (slotsN s k).length ≤ k := by
  have := List.length_filter_le (fun i => ((s[i]?).getD none).isSome) (List.range k)
  simp only [slotsN, List.length_map]
  rwa [List.length_range] at this
def slotsP (q : Option (List Slot)) : List Int := match q with
  | none => []
  | some s => slotsN s s.length

def IntsRet (l : List Int) (w : World) (e : Ending) (w' : World) : Prop :=
  ∃ v', e = .returned v' ∧ w'.ownsRow w.heap.size 3 1 v' l.length (cells64 l) ∧ Below w.heap.size w w'

def SlRel (base : Nat) (w : World) (s : List Slot) (v i : Value) (wr : World) : Prop :=
  ∃ k : Nat, k ≤ s.length ∧ i = .int .i64 k ∧ wr.ownsRow base 3 1 v (slotsN s k).length (cells64 (slotsN s k)) ∧ Below base w wr

section
variable (w : World) (A : Option Addr) (n c : Nat) (l : List Int) (h : Sl w A n c l)
include h
set_option maxRecDepth 100000 in
set_option maxHeartbeats 1600000 in
theorem slots_any : Calls Tryd.prog 72 #[.slice A n c] w (IntsRet (slotsP (ofP l)) w) := by
  have HR := Lib.hid (right_sl w A n c l h)
  cases ho : ofP l with
  | none =>
    have HE := Lib.hid (show (ofP l).isSome = false by rw [ho]; rfl)
    clear ho h
    go_enter Tryd.func72, Tryd.ntmps72
    go_wp2_with fail
    refine HR.out.mono ?_
    rintro e w1 ⟨rfl, hb1⟩
    rw [HE.out]
    have HB := Lib.hid hb1
    clear hb1
    go_wp2
    go_ret
    exact ⟨_, rfl, ⟨rfl, .inl ⟨rfl, rfl⟩⟩, HB.out⟩
  | some s =>
    have HE := Lib.hid (show (ofP l).isSome = true by rw [ho]; rfl)
    have hp := ofP_some ho
    obtain ⟨rfl, g, rfl, ha⟩ := h.pg hp
    have HP := Lib.hid (And.intro hp ha)
    have hn := ha.n_le
    obtain ⟨i0, hi, hz0, hz1, hz2⟩ := info_parts Tryd.dkinfo3
    clear ho hp h ha
    go_enter Tryd.func72, Tryd.ntmps72
    go_wp2_with fail
    refine HR.out.mono ?_
    rintro e w1 ⟨rfl, hb1⟩
    rw [HE.out]
    have HB := Lib.hid hb1
    have HA := Lib.hid ((HP.out.2.below hb1 (Nat.le_refl _)))
    clear hb1
    go_wp2_with fail
    refine (marks_any w1 w.heap.size g c l s.length HA.out).mono ?_
    rintro e w' ⟨rfl, rfl⟩
    go_wp2_with fail
    go_loopw [3, 12] (fun v i wr => SlRel w.heap.size w s v i wr) (fun _ i _ => s.length - (intOf i).toNat)
    case atStart => exact ⟨0, by omega, rfl, World.ownsRow_nil _ _ _ _, HB.out⟩
    case round =>
      obtain ⟨k, hk, rfl, hown, hbel⟩ := hrel
      have hk0 : (0 : Int) ≤ (k : Int) := Int.natCast_nonneg _
      have hsz := hbel.size
      by_cases hlt : k < s.length
      · have hlti : (k : Int) < (s.length : Int) := by omega
        obtain ⟨o, hko⟩ : ∃ o, s[k]? = some o := ⟨_, List.getElem?_eq_getElem hlt⟩
        have hm := HP.out.1.mark hko
        have hcell := (HP.out.2.below hbel (Nat.le_refl _)).cell (k := 1 + k) (by omega)
        rw [(List.getElem?_eq_some_iff.1 hm).2] at hcell
        have HK := Lib.hid hko
        have HQ := Lib.hid (And.intro hown hbel)
        have hsl := slotsN_le s k
        clear hm hko hown hbel
        cases o with
        | none =>
          rw [show mkS none = 0 from rfl] at hcell
          have HF := Lib.hid (show ∀ v, wr.ownsRow w.heap.size 3 1 v (slotsN s k).length (cells64 (slotsN s k)) → SlRel w.heap.size w s v (.int .i64 ((k : Int) + 1)) wr from fun v hv => ⟨k + 1, by omega, by simp, by rw [slotsN_no HK.out]; exact hv, HQ.out.2⟩)
          go_wp2
          go_roundw
          case rel => exact HF.out _ HQ.out.1
          case measure => simp [intOf]; omega
        | some b =>
          rw [show mkS (some b) = (b.length : Int) + 1 from rfl] at hcell
          have hne : ¬ (b.length : Int) + 1 = 0 := by omega
          have hne2 : ((b.length : Int) + 1 != 0) = true := by simp; omega
          go_wp2_with (at_builtin; refine wpList_append_own _ rfl (.tmp 19) (.tmp 21) 53 rfl w.heap.size 3 i0 (.int .i64 0) 1 8 Tryd.underlying53 hi hz0 hz1 hz2 rfl (by decide) _ _ _ rfl (HQ.out.1.alloc _) ⟨wr.heap.size, 0, none⟩ 1 1 [.int .i64 (k : Int)] rfl rfl (cell_one_new _ _ _) ?c2 ?c3 ?c4 ?c5 ?_)
          case c2 => intro u hu; simp at hu; subst hu; rfl
          case c3 => first | (unfold maxLen; omega) | (simp [maxLen]; omega)
          case c4 => first | omega | (simp; omega)
          case c5 => first | omega | (simp; omega) | (rw [World.size_alloc]; omega)
          intro v' w2 hown1 hgrow _
          have hb1 : Below w.heap.size wr w2 := ((Below.refl _ _).alloc (by omega) _).trans (below_own (HQ.out.1.alloc _) hgrow (by first | omega | (simp; omega)))
          have HF := Lib.hid (show SlRel w.heap.size w s v' (.int .i64 ((k : Int) + 1)) w2 from ⟨k + 1, by omega, by simp, by rw [slotsN_yes HK.out]; simpa [cells64] using hown1, HQ.out.2.trans hb1⟩)
          clear hown1 hgrow hb1
          go_wp2
          go_roundw
          case rel => exact HF.out
          case measure => simp [intOf]; omega
      · obtain rfl : k = s.length := by omega
        have HF := Lib.hid (And.intro hown hbel)
        clear hown hbel
        go_wp2
        go_ret
        exact ⟨_, rfl, HF.out.1, HF.out.2⟩
end
end Go.Proofs.YtdnegfjddpdmhaaDoor
