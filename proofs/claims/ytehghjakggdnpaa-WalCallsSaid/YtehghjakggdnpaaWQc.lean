/-
  The document's newest: the head that counts.
  The contract of the document's newest.
  The document's Format and Open.
-/
import Derived.Test.YtehghjakggdnpaaWQb
import Derived.Test.YtehghjakggdnpaaWHof
import Derived.Deep.Cut
import Derived.Deep.DeepCutAuto
import Derived.Test.YtehghjakggdnpaaWOpen
import Derived.Test.YtehghjakggdnpaaWKeepD
namespace Go.Proofs.Ytehghjakggdnpaa
open Go.RowKit Go.Lib

def zeroR (b : List Int) : Nat → Bool
  | 0 => true
  | m + 1 => zeroR b m && decide (b.getD (9 + m) 0 = 0)
def okR (b : List Int) (k : Nat) : Bool := decide (0 < stmM b) && (decide (stmM b % 2 = (k : Int)) && (decide (b.getD 4 0 < 2) && decide (1 ≤ num4 b 5)))
theorem zeroR_iff (b : List Int) : ∀ m, zeroR b m = true ↔ ∀ i, 9 ≤ i → i < 9 + m → b.getD i 0 = 0 := by
  intro m
  induction m with
  | zero => simp only [zeroR, true_iff]; intro i h1 h2; omega
  | succ m ih =>
    simp only [zeroR, Bool.and_eq_true, decide_eq_true_eq, ih]
    constructor
    · rintro ⟨h1, h2⟩ i hi hj
      by_cases e : i = 9 + m
      · rw [e]; exact h2
      · exact h1 i hi (by omega)
    · intro h
      exact ⟨fun i h1 h2 => h i h1 (by omega), h _ (by omega) (by omega)⟩
theorem headB_mid {x a f : Int} {i : Nat} (h : 9 ≤ i) (h2 : i < 60) : (headB x a f)[i]? = some 0 := by
  unfold headB stampL put4
  simp only [putk]
  rw [List.getElem?_set_ne (by omega), List.getElem?_set_ne (by omega), List.getElem?_set_ne (by omega), List.getElem?_set_ne (by omega), List.getElem?_set_ne (by omega), List.getElem?_set_ne (by omega), List.getElem?_set_ne (by omega), List.getElem?_set_ne (by omega), List.getElem?_set_ne (by omega), List.getElem?_set_ne (by omega), List.getElem?_set_ne (by omega), List.getElem?_set_ne (by omega), List.getElem?_set_ne (by omega)]
  unfold zeros
  rw [List.getElem?_replicate, if_pos (by omega)]
theorem getD_some {b : List Int} {i : Nat} (h : i < b.length) : b[i]? = some (b.getD i 0) := by
  rw [List.getD_eq_getElem?_getD, List.getElem?_eq_getElem h]; rfl
section
variable (x a f : Int)
theorem hb0 : (headB x a f)[0]? = some (x % 256) := rfl
theorem hb1 : (headB x a f)[1]? = some (x / 256 % 256) := rfl
theorem hb2 : (headB x a f)[2]? = some (x / 65536 % 256) := rfl
theorem hb3 : (headB x a f)[3]? = some (x / 16777216 % 256) := rfl
theorem hb4 : (headB x a f)[4]? = some a := rfl
theorem hb5 : (headB x a f)[5]? = some (f % 256) := rfl
theorem hb6 : (headB x a f)[6]? = some (f / 256 % 256) := rfl
theorem hb7 : (headB x a f)[7]? = some (f / 65536 % 256) := rfl
theorem hb8 : (headB x a f)[8]? = some (f / 16777216 % 256) := rfl
theorem hb60 : (headB x a f)[60]? = some (x % 256) := rfl
theorem hb61 : (headB x a f)[61]? = some (x / 256 % 256) := rfl
theorem hb62 : (headB x a f)[62]? = some (x / 65536 % 256) := rfl
theorem hb63 : (headB x a f)[63]? = some (x / 16777216 % 256) := rfl
end
theorem bytes_num {p q r t x : Int} (h0 : 0 ≤ p ∧ p < 256) (h1 : 0 ≤ q ∧ q < 256) (h2 : 0 ≤ r ∧ r < 256) (h3 : 0 ≤ t ∧ t < 256) (h : x = p + 256 * q + 65536 * r + 16777216 * t) : p = x % 256 ∧ q = x / 256 % 256 ∧ r = x / 65536 % 256 ∧ t = x / 16777216 % 256 := by
  omega
set_option maxHeartbeats 2000000 in
theorem headB_of {b : List Int} (hb : IsBytes b) (hl : b.length = 64) {x a f : Int} (hx : x = num4 b 0) (ha : a = b.getD 4 0) (hf : f = num4 b 5) (h6 : num4 b 60 = x) (hz : ∀ i, 9 ≤ i → i < 60 → b.getD i 0 = 0) : b = headB x a f := by
  apply List.ext_getElem?
  intro i
  by_cases hi : i < 64
  · rw [getD_some (by omega)]
    by_cases hm : 9 ≤ i ∧ i < 60
    · rw [headB_mid hm.1 hm.2, hz i hm.1 hm.2]
    · obtain ⟨x0, x1, x2, x3⟩ := bytes_num (hb.at_ 0) (hb.at_ 1) (hb.at_ 2) (hb.at_ 3) (show x = _ from hx)
      obtain ⟨f0, f1, f2, f3⟩ := bytes_num (hb.at_ 5) (hb.at_ 6) (hb.at_ 7) (hb.at_ 8) (show f = _ from hf)
      obtain ⟨y0, y1, y2, y3⟩ := bytes_num (hb.at_ 60) (hb.at_ 61) (hb.at_ 62) (hb.at_ 63) (show x = _ from h6.symm)
      clear hx hf h6 hb hz
      rcases (by omega : i = 0 ∨ i = 1 ∨ i = 2 ∨ i = 3 ∨ i = 4 ∨ i = 5 ∨ i = 6 ∨ i = 7 ∨ i = 8 ∨ i = 60 ∨ i = 61 ∨ i = 62 ∨ i = 63) with rfl | rfl | rfl | rfl | rfl | rfl | rfl | rfl | rfl | rfl | rfl | rfl | rfl
      · rw [hb0, x0]
      · rw [hb1, x1]
      · rw [hb2, x2]
      · rw [hb3, x3]
      · rw [hb4, ha]
      · rw [hb5, f0]
      · rw [hb6, f1]
      · rw [hb7, f2]
      · rw [hb8, f3]
      · rw [hb60, y0]
      · rw [hb61, y1]
      · rw [hb62, y2]
      · rw [hb63, y3]
  · rw [List.getElem?_eq_none (by omega), List.getElem?_eq_none (by rw [headB_len]; omega)]
theorem of_headB {b : List Int} {x a f : Int} (hx : 0 ≤ x ∧ x < 4294967296) (h : b = headB x a f) : num4 b 60 = x ∧ ∀ i, 9 ≤ i → i < 60 → b.getD i 0 = 0 := by
  constructor
  · have e0 : b.getD 60 0 = x % 256 := by rw [h]; rfl
    have e1 : b.getD 61 0 = x / 256 % 256 := by rw [h]; rfl
    have e2 : b.getD 62 0 = x / 65536 % 256 := by rw [h]; rfl
    have e3 : b.getD 63 0 = x / 16777216 % 256 := by rw [h]; rfl
    unfold num4
    simp only [Nat.reduceAdd]
    rw [e0, e1, e2, e3]
    omega
  · intro i h1 h2
    rw [List.getD_eq_getElem?_getD, h, headB_mid h1 h2]; rfl
theorem headR_eq {C : List (List Int)} (hb : AllBytes C) {k : Nat} (hl : (C.getD k []).length = 64) :
    headInM C k = if (okR (C.getD k []) k && zeroR (C.getD k []) 51) = true then some (stmM (C.getD k []), (C.getD k []).getD 4 0, num4 (C.getD k []) 5) else none := by
  have hB := hb.at_ k
  unfold headInM
  generalize C.getD k [] = b at *
  have hn := num4_bd hB 0
  by_cases hc : (okR b k && zeroR b 51) = true
  · rw [if_pos hc]
    rw [Bool.and_eq_true, zeroR_iff] at hc
    obtain ⟨ho, hz⟩ := hc
    unfold okR at ho
    simp only [Bool.and_eq_true, decide_eq_true_eq] at ho
    obtain ⟨o1, o2, o3, o4⟩ := ho
    have hv : num4 b 0 = num4 b 60 ∧ num4 b 0 < 2147483648 := by
      by_cases hv : num4 b 0 = num4 b 60 ∧ num4 b 0 < 2147483648
      · exact hv
      · rw [show stmM b = 0 from if_neg hv] at o1; omega
    have e : stmM b = num4 b 0 := if_pos hv
    rw [e] at o1 o2 ⊢
    show (if _ then _ else _) = _
    rw [if_neg (by omega), if_neg]
    have hq := headB_of hB hl rfl rfl rfl hv.1.symm (fun i h1 h2 => hz i h1 (by omega))
    intro h
    rcases h with h | h | h
    · omega
    · omega
    · exact h hq
  · rw [if_neg hc]
    show (if _ then _ else _) = _
    split
    · rfl
    · rename_i h1
      split
      · rfl
      · rename_i h2
        exfalso
        apply hc
        have hq : b = headB (num4 b 0) (b.getD 4 0) (num4 b 5) := by
          apply Classical.byContradiction
          intro h
          exact h2 (.inr (.inr h))
        obtain ⟨q1, q2⟩ := of_headB hn hq
        have e : stmM b = num4 b 0 := if_pos ⟨q1.symm, by omega⟩
        rw [Bool.and_eq_true, zeroR_iff]
        refine ⟨?_, fun i h3 h4 => q2 i h3 (by omega)⟩
        unfold okR
        simp only [Bool.and_eq_true, decide_eq_true_eq]
        rw [e]
        omega

def nv : Option (Int × Int × Int) → Int × Int × Int
  | none => (0, 0, 0)
  | some h => h
/-- what counts of the first k heads -/
def upTo (C : List (List Int)) : Nat → Option (Int × Int × Int)
  | 0 => none
  | k + 1 => pickH (upTo C k) (headInM C k)
theorem upTo_two (C : List (List Int)) : upTo C 2 = headOfM C := by
  unfold headOfM
  simp only [upTo]
  cases headInM C 0 <;> rfl
theorem pick_none (o : Option (Int × Int × Int)) : pickH o none = o := by cases o <;> rfl
theorem pick_some {o : Option (Int × Int × Int)} {g a f : Int} (hg : 0 < g) : pickH o (some (g, a, f)) = if (nv o).1 < g then some (g, a, f) else o := by
  cases o with
  | none => simp [pickH, nv, hg]
  | some h => rfl
theorem upTo_bd {C : List (List Int)} (hb : AllBytes C) (k : Nat) : 0 ≤ (nv (upTo C k)).1 ∧ (nv (upTo C k)).1 < 2147483648 ∧ 0 ≤ (nv (upTo C k)).2.1 ∧ (nv (upTo C k)).2.1 ≤ 1 ∧ 0 ≤ (nv (upTo C k)).2.2 ∧ (nv (upTo C k)).2.2 < 4294967296 := by
  induction k with
  | zero => simp [upTo, nv]
  | succ k ih =>
    simp only [upTo]
    cases h : headInM C k with
    | none => rw [pick_none]; exact ih
    | some x =>
      obtain ⟨g, a, f⟩ := x
      have hs := headInM_some h hb
      rw [pick_some (by omega)]
      split
      · simp only [nv]; omega
      · exact ih
end Go.Proofs.Ytehghjakggdnpaa

namespace Go.Proofs.Ytehghjakggdnpaa
open Go.RowKit Go.Lib

def NwRel (C : List (List Int)) (w : World) (gv av fv kv : Value) (wr : World) : Prop :=
  ∃ k : Nat, k ≤ 2 ∧ gv = .int .i64 (nv (upTo C k)).1 ∧ av = .int .i64 (nv (upTo C k)).2.1 ∧ fv = .int .i64 (nv (upTo C k)).2.2 ∧ kv = .int .i64 k ∧ Below w.heap.size w wr
def NzRel (b : List Int) (k : Nat) (w1 : World) (v i : Value) (wr : World) : Prop :=
  ∃ n : Nat, 9 ≤ n ∧ n ≤ 60 ∧ v = .bool (okR b k && zeroR b (n - 9)) ∧ i = .int .i64 n ∧ w1 = wr

section
variable {w wr w' : World} {g l : Nat} {G : Nat → Prop} {s : DS}
set_option maxRecDepth 100000 in
set_option maxHeartbeats 6400000 in
theorem refNewest_any (h : RefAt w g G s) (hb : AllBytes s.cur) (h2 : 2 ≤ s.last.length) :
    Calls Try.prog 54 #[.pointer (some ⟨g, 0, none⟩)] w fun e w' => e = .returned (.tuple #[.int .i64 (nv (headOfM s.cur)).1, .int .i64 (nv (headOfM s.cur)).2.1, .int .i64 (nv (headOfM s.cur)).2.2]) ∧ Below w.heap.size w w' := by
  have hlen := h.ok.le
  have hcl : ∀ b ∈ s.cur, b.length = 64 := lay_all h.ok.len (fun p hp => (h.ok.wlen p hp).2)
  have H := Lib.hid (And.intro h (And.intro hb hcl))
  clear h hb hcl
  go_enter Try.func54, Try.ntmps54
  go_wp2_with fail
  go_loopw [5, 6, 7, 8] (fun gv av fv kv wr => NwRel s.cur w gv av fv kv wr) (fun _ _ _ kv _ => 2 - (intOf kv).toNat)
  case atStart => exact ⟨0, by omega, rfl, rfl, rfl, rfl, Below.refl _ _⟩
  case round =>
    obtain ⟨k, hk, rfl, rfl, rfl, rfl, hbel⟩ := hrel
    have hbd := upTo_bd H.out.2.1 k
    by_cases hk2 : k < 2
    · have hki : (k : Int) < 2 := by omega
      obtain ⟨o, ho⟩ : ∃ o, o = upTo s.cur k := ⟨_, rfl⟩
      rw [← ho] at hbd ⊢
      have HO := Lib.hid (And.intro ho hbel)
      clear ho hbel
      obtain ⟨og, hog⟩ : ∃ og, og = (nv o).1 := ⟨_, rfl⟩
      obtain ⟨oa, hoa⟩ : ∃ oa, oa = (nv o).2.1 := ⟨_, rfl⟩
      obtain ⟨of', hof⟩ : ∃ of', of' = (nv o).2.2 := ⟨_, rfl⟩
      rw [← hog, ← hoa, ← hof] at hbd ⊢
      have HG := Lib.hid (And.intro hog (And.intro hoa hof))
      clear hog hoa hof
      go_wp2_with fail
      refine (refReadQ (H.out.1.below HO.out.2) (k : Int) k rfl (by omega) _ rfl).mono ?_
      rintro e w1 ⟨q, c, rfl, hr1, hc1, hm1, hq1, hl1⟩
      have hB := H.out.2.1.at_ k
      have hbl : (s.cur.getD k []).length = 64 := by
        rw [List.getD_eq_getElem?_getD, List.getElem?_eq_getElem (by rw [cur_len]; omega)]
        exact H.out.2.2 _ (List.getElem_mem _)
      have hR := headR_eq H.out.2.1 hbl
      obtain ⟨b, hbe⟩ : ∃ b, b = s.cur.getD k [] := ⟨_, rfl⟩
      rw [← hbe] at hr1 hB hbl hR
      have H1 := Lib.hid (And.intro hr1 (And.intro hB (And.intro hbl (And.intro hR (HO.out.2.trans (hl1.mono HO.out.2.size))))))
      have hb4 := hB.at_ 4
      have hn5 := num4_bd hB 5
      have hsb : 0 ≤ stmM b ∧ stmM b < 2147483648 := by have := num4_bd hB 0; unfold stmM; split <;> omega
      obtain ⟨ad, ea, e4⟩ := hr1.cellAt (k := 4) (by omega)
      obtain rfl := Option.some.inj ea
      rw [addr_pos] at e4
      simp only [Nat.zero_add] at e4
      clear hr1 hB hbl hR hl1 ea hbe
      go_wp2_with fail
      refine (refStamped_any _ c b w1 _ H1.out.1 H1.out.2.1).mono ?_
      rintro e w2 ⟨rfl, p2, rfl⟩
      obtain ⟨sx, hsx⟩ : ∃ sx, sx = stmM b := ⟨_, rfl⟩
      obtain ⟨b4, hb4e⟩ : ∃ b4, b4 = b.getD 4 0 := ⟨_, rfl⟩
      obtain ⟨n5, hn5e⟩ : ∃ n5, n5 = num4 b 5 := ⟨_, rfl⟩
      have hok : okR b k = (decide (0 < sx) && (decide (sx % 2 = (k : Int)) && (decide (b4 < 2) && decide (1 ≤ n5)))) := by rw [hsx, hb4e, hn5e]; rfl
      have HK5 := Lib.hid (show ∀ w0, (∃ p, w0 = w1.drewN p) → Calls Try.prog 61 #[.slice (some ⟨q, 0, none⟩) 64 c, .int .i64 5] w0 (Quiet (.int .i64 n5) w0) from fun w0 hw => by
        obtain ⟨p, rfl⟩ := hw
        rw [hn5e]
        exact refNumber_any _ 64 c b (w1.drewN p) _ H1.out.1 H1.out.2.1 5 5 (.inr (.inl ⟨rfl, rfl⟩)) (by omega))
      rw [← hsx] at hsb ⊢
      rw [← hb4e] at hb4 e4
      rw [← hn5e] at hn5
      have HV := Lib.hid (And.intro hsx (And.intro hb4e (And.intro hn5e hok)))
      clear hsx hb4e hn5e hok
      go_upto_region 9 with (fail)
      go_cut [12] (fun v wx => v = .bool (okR b k) ∧ ∃ p, wx = w1.drewN p)
      case first =>
        by_cases t1 : 0 < sx
        · by_cases t2 : sx % 2 = (k : Int)
          · have t2b : (sx % 2 == (k : Int)) = true := by simp [t2]
            by_cases t3 : b4 < 2
            · by_cases t4 : 1 ≤ n5
              · go_wp2_with (go_at_call 61; refine (HK5.out _ ⟨_, rfl⟩).mono ?_; rintro e w3 ⟨rfl, p3, rfl⟩)
                go_meet
                exact ⟨congrArg Value.bool (by rw [HV.out.2.2.2]; simp [t1, t2, t3, t4] <;> (intros; omega)), _, rfl⟩
              · go_wp2_with (go_at_call 61; refine (HK5.out _ ⟨_, rfl⟩).mono ?_; rintro e w3 ⟨rfl, p3, rfl⟩)
                go_meet
                exact ⟨congrArg Value.bool (by rw [HV.out.2.2.2]; simp [t1, t2, t3, t4] <;> (intros; omega)), _, rfl⟩
            · go_wp2
              go_meet
              exact ⟨congrArg Value.bool (by rw [HV.out.2.2.2]; simp [t1, t2, t3] <;> (intros; omega)), _, rfl⟩
          · have t2b : (sx % 2 == (k : Int)) = false := by simp [t2]
            go_wp2
            go_meet
            exact ⟨congrArg Value.bool (by rw [HV.out.2.2.2]; simp [t1, t2] <;> (intros; omega)), _, rfl⟩
        · go_wp2
          go_meet
          exact ⟨congrArg Value.bool (by rw [HV.out.2.2.2]; simp [t1] <;> (intros; omega)), _, rfl⟩
      case rest =>
        obtain ⟨rfl, p, rfl⟩ := hcut
        go_wp2_with fail
        go_loopw [12, 13] (fun v i wr => NzRel b k (w1.drewN p) v i wr) (fun _ i _ => 60 - (intOf i).toNat)
        case atStart => exact ⟨9, by omega, by omega, by simp [zeroR], rfl, rfl⟩
        case round =>
          obtain ⟨n, h9, h60, rfl, rfl, rfl⟩ := hrel
          by_cases hn : n < 60
          · have hni : (n : Int) < 60 := by omega
            have hni2 : (n : Int) < 64 := by omega
            have hn64 : n < 64 := by omega
            have hn0 : (0 : Int) ≤ (n : Int) := Int.natCast_nonneg _
            obtain ⟨ad, ea, en⟩ := H1.out.1.cellAt (k := n) (by omega)
            obtain rfl := Option.some.inj ea
            rw [Addr.add_mid, Nat.zero_add] at en
            obtain ⟨y, hy⟩ : ∃ y, y = b.getD n 0 := ⟨_, rfl⟩
            rw [← hy] at en
            have hz : zeroR b (n + 1 - 9) = (zeroR b (n - 9) && decide (y = 0)) := by
              rw [hy, show n + 1 - 9 = (n - 9) + 1 by omega]
              simp only [zeroR]
              rw [show 9 + (n - 9) = n by omega]
            have HZ := Lib.hid hz
            clear hz hy ea
            cases hv : (okR b k && zeroR b (n - 9)) with
            | false =>
              go_wp2
              go_roundw
              case rel => exact ⟨n + 1, by omega, by omega, congrArg Value.bool (by rw [HZ.out, ← Bool.and_assoc, hv]; rfl), by go_num, rfl⟩
              case measure => simp [intOf]; omega
            | true =>
              by_cases hy0 : y = 0
              · have hyb : (y == 0) = true := by simp [hy0]
                go_wp2
                go_roundw
                case rel => exact ⟨n + 1, by omega, by omega, congrArg Value.bool (by rw [HZ.out, ← Bool.and_assoc, hv]; simp [hy0]), by go_num, rfl⟩
                case measure => simp [intOf]; omega
              · have hyb : (y == 0) = false := by simp [hy0]
                go_wp2
                go_roundw
                case rel => exact ⟨n + 1, by omega, by omega, congrArg Value.bool (by rw [HZ.out, ← Bool.and_assoc, hv]; simp [hy0]), by go_num, rfl⟩
                case measure => simp [intOf]; omega
          · obtain rfl : n = 60 := by omega
            have hup : upTo s.cur (k + 1) = pickH o (headInM s.cur k) := by rw [HO.out.1]; rfl
            rw [H1.out.2.2.2.1] at hup
            have hbw : Below w.heap.size w (w1.drewN p) := bdr H1.out.2.2.2.2 p
            have HB := Lib.hid (And.intro hup hbw)
            clear hup hbw
            cases hv : (okR b k && zeroR b 51) with
            | false =>
              have hF : Hid (NwRel s.cur w (.int .i64 og) (.int .i64 oa) (.int .i64 of') (.int .i64 ((k : Int) + 1)) (w1.drewN p)) := by
                have e : upTo s.cur (k + 1) = o := by rw [HB.out.1, if_neg (by rw [hv]; decide), pick_none]
                exact Lib.hid ⟨k + 1, by omega, by rw [e, HG.out.1], by rw [e, HG.out.2.1], by rw [e, HG.out.2.2], by congr 1, HB.out.2⟩
              go_wp2
              go_roundw
              case rel => exact hF.out
              case measure => simp [intOf]; omega
            | true =>
              have hs0 : 0 < sx := by
                have h1 := (Bool.and_eq_true _ _ ▸ hv : okR b k = true ∧ zeroR b 51 = true).1
                rw [HV.out.2.2.2] at h1
                simp only [Bool.and_eq_true, decide_eq_true_eq] at h1
                exact h1.1
              have hpk : upTo s.cur (k + 1) = if og < sx then some (sx, b4, n5) else o := by
                rw [HB.out.1, if_pos hv, ← HV.out.1, ← HV.out.2.1, ← HV.out.2.2.1, pick_some hs0, ← HG.out.1]
              have HPK := Lib.hid hpk
              clear hpk
              by_cases hgt : og < sx
              · have hF : Hid (NwRel s.cur w (.int .i64 sx) (.int .i64 b4) (.int .i64 n5) (.int .i64 ((k : Int) + 1)) (w1.drewN p) ∧ ∀ p', NwRel s.cur w (.int .i64 sx) (.int .i64 b4) (.int .i64 n5) (.int .i64 ((k : Int) + 1)) (w1.drewN p')) := by
                  have e : upTo s.cur (k + 1) = some (sx, b4, n5) := by rw [HPK.out, if_pos hgt]
                  have hx : ∀ p', NwRel s.cur w (.int .i64 sx) (.int .i64 b4) (.int .i64 n5) (.int .i64 ((k : Int) + 1)) (w1.drewN p') := fun p' => ⟨k + 1, by omega, by rw [e]; rfl, by rw [e]; rfl, by rw [e]; rfl, by congr 1, bdr H1.out.2.2.2.2 p'⟩
                  exact Lib.hid ⟨hx p, hx⟩
                go_wp2_with (go_at_call 61; refine (HK5.out _ ⟨_, rfl⟩).mono ?_; rintro e w3 ⟨rfl, p3, rfl⟩)
                go_roundw
                case rel => exact hF.out.2 _
                case measure => simp [intOf]; omega
              · have hF : Hid (NwRel s.cur w (.int .i64 og) (.int .i64 oa) (.int .i64 of') (.int .i64 ((k : Int) + 1)) (w1.drewN p)) := by
                  have e : upTo s.cur (k + 1) = o := by rw [HPK.out, if_neg hgt]
                  exact Lib.hid ⟨k + 1, by omega, by rw [e, HG.out.1], by rw [e, HG.out.2.1], by rw [e, HG.out.2.2], by congr 1, HB.out.2⟩
                go_wp2
                go_roundw
                case rel => exact hF.out
                case measure => simp [intOf]; omega
    · obtain rfl : k = 2 := by omega
      have HB := Lib.hid hbel
      clear hbel
      go_wp2
      go_ret3
      rw [← upTo_two]
      exact ⟨rfl, HB.out⟩
end
end Go.Proofs.Ytehghjakggdnpaa

namespace Go.Proofs.Ytehghjakggdnpaa
open Go.RowKit Go.Lib

/-- what the document's Format answers where it is well -/
def RFormRet (g : Nat) (G : Nat → Prop) (s : DS) (gen next : Int) (w : World) (e : Ending) (w' : World) : Prop :=
  ∃ l G', e = .returned (.tuple #[.pointer (some ⟨l, 0, none⟩), .int .i64 0]) ∧ RefAt w' g G' s ∧ RLogAt w' l g gen 0 0 next ∧ ¬ G' l ∧ w.heap.size ≤ l ∧ (∀ k, G' k → G k ∨ w.heap.size ≤ k) ∧ Chg G w w'

section
variable {w wr w' : World} {g l : Nat} {G : Nat → Prop} {s : DS} {gen area next : Int} {u : Nat}
set_option maxRecDepth 100000 in
theorem refFormat_small (h : RefAt w g G s) (h10 : s.last.length < 10) :
    Calls Try.prog 13 #[.pointer (some ⟨g, 0, none⟩)] w fun e w' => e = .returned (.tuple #[.pointer none, .int .i64 41]) ∧ w = w' := by
  have hle := h.ok.le
  obtain ⟨A, c, c0⟩ := h.last_len
  have h10i : (s.last.length : Int) < 10 := by omega
  clear h
  go_enter Try.func13, Try.ntmps13
  go_wp2
  go_ret2
  exact ⟨rfl, rfl⟩

set_option maxRecDepth 100000 in
set_option maxHeartbeats 1600000 in
theorem refFormat_any (h : RefAt w g G s) (hb : AllBytes s.cur) (h10 : 10 ≤ s.last.length) (few : s.wr.length < 1000000)
    (gen next : Int) (hgen : gen = great4 s.cur 0 2) (hnext : next = great4 s.cur 2 (2 * s.half) + 1) (hg : gen + 1 < 2147483648) (hx : next < 2147483648) :
    Calls Try.prog 13 #[.pointer (some ⟨g, 0, none⟩)] w (RFormRet g G (s.write ((gen + 1) % 2).toNat (headB (gen + 1) 0 next)).flush (gen + 1) next w) := by
  have hle := h.ok.le
  have hgb := great4_bd hb 0 2
  have hxb := great4_bd hb 2 (2 * s.half)
  rw [← hgen] at hgb
  have hxb2 : 1 ≤ next := by omega
  obtain ⟨A, c, c0⟩ := h.last_len
  have hh := h.half_le
  have hhl : 2 + 2 * s.half ≤ s.last.length := by unfold DS.half; omega
  have hnx : great4 s.cur 2 (2 + 2 * s.half - 2) = next - 1 := by rw [hnext, show 2 + 2 * s.half - 2 = 2 * s.half by omega]; omega
  have H := Lib.hid (And.intro h (And.intro hb (And.intro hgen hnx)))
  have h10i : ¬ (s.last.length : Int) < 10 := by omega
  clear h hb hgen hnext hxb hnx
  go_enter Try.func13, Try.ntmps13
  go_wp2_with fail
  refine (refMost_at H.out.1 H.out.2.1 0 2 0 2 rfl rfl (by omega) (by omega) gen H.out.2.2.1.symm).mono ?_
  rintro e w1 ⟨rfl, hl1⟩
  have HL1 := Lib.hid hl1
  clear hl1
  go_wp2_with fail
  refine (refHalf_any (H.out.1.below HL1.out) (by omega)).mono ?_
  rintro e w1' ⟨rfl, rfl⟩
  go_wp2_with fail
  refine (refMost_at (H.out.1.below HL1.out) H.out.2.1 2 (2 + 2 * (s.half : Int)) 2 (2 + 2 * s.half) rfl (by omega) (by omega) hhl (next - 1) H.out.2.2.2).mono ?_
  rintro e w2 ⟨rfl, hl2⟩
  have HL2 := Lib.hid (HL1.out.trans (hl2.mono HL1.out.size))
  clear hl2 c0
  go_wp2_with fail
  obtain ⟨w3, hw3⟩ : ∃ w3, w3 = w2.alloc (.cells #[.pointer (some ⟨g, 0, none⟩), .int .i64 (gen + 1), .int .i64 0, .int .i64 0, .int .i64 next] 46) := ⟨_, rfl⟩
  have hlg3 : RLogAt w3 w2.heap.size g (gen + 1) 0 0 next := by rw [hw3]; exact Blk.new _ _ _
  have hl3 : Below w.heap.size w w3 := by rw [hw3]; exact HL2.out.alloc HL2.out.size _
  have sz3 : w3.heap.size = w2.heap.size + 1 := by rw [hw3]; exact World.size_alloc _ _
  rw [← hw3]
  clear hw3
  have hnf : ¬ G w2.heap.size := fun e => by
    have h1 := H.out.1.foot _ e
    have h2 := HL2.out.size
    omega
  have H3 := Lib.hid (And.intro hlg3 (And.intro (H.out.1.below hl3) (And.intro hl3 sz3)))
  clear hlg3 hl3 sz3
  refine (refHead_any H3.out.2.1 H3.out.1 hnf ⟨by omega, by omega⟩ (.inl rfl) next ⟨by omega, by omega⟩ few (by omega)).mono ?_
  rintro e w4 ⟨rfl, h4⟩
  have H4 := Lib.hid (show RFormRet g G (s.write ((gen + 1) % 2).toNat (headB (gen + 1) 0 next)).flush (gen + 1) next w (.returned (.tuple #[.pointer (some ⟨w2.heap.size, 0, none⟩), .int .i64 0])) w4 from by
    have s2 := HL2.out.size
    have s3 := H3.out.2.2.2
    refine ⟨w2.heap.size, Ext G w3 w4, rfl, h4.1, h4.2.1, ?_, s2, ?_, ?_⟩
    · rintro (h | h)
      · exact hnf h
      · omega
    · rintro k (h | h)
      · exact .inl h
      · exact .inr (by omega)
    · refine (Chg.of_below H3.out.2.2.1).trans' h4.2.2 ?_
      rintro k hk (h | h)
      · exact h
      · omega)
  clear h4
  go_wp2
  go_ret2
  exact H4.out
theorem refFormat_new {m : Nat} (h : RefAt w g G (newS m)) (h10 : 10 ≤ m) :
    Calls Try.prog 13 #[.pointer (some ⟨g, 0, none⟩)] w (RFormRet g G (fmtS m) 1 1 w) := by
  have hl : (newS m).last.length = m := secs_len [] m
  have hz := newS_nil (m := m)
  exact refFormat_any h (newS_bytes m) (by rw [hl]; exact h10) (by show 0 < 1000000; omega) 0 1 (great4_zero hz 0 2).symm (by rw [great4_zero hz]; rfl) (by omega) (by omega)

/-- what record answers at a place: a record there, or none -/
theorem refRecord_q {used : Int} {m fuel : Nat} (h : RefAt w g G s) (hl : RLogAt w l g gen area used next) (hb : AllBytes s.cur) (h2 : 2 ≤ s.last.length) (ha : area = 0 ∨ area = 1) (hu : m ≤ s.half) (least : Int) (h1 : 1 ≤ least) :
    ∃ o, (o = none → recsM s.cur fuel (2 + area.toNat * s.half + m) (s.half - m) least = ([], 0)) ∧ (∀ r first, o = some (r, first) → m < s.half ∧ nextRec s.cur (2 + area.toNat * s.half + m) (s.half - m) least = some (r, first)) ∧
      Calls Try.prog 55 #[.pointer (some ⟨l, 0, none⟩), .int .i64 m, .int .i64 least] w (RecRet o w) := by
  by_cases hm : m < s.half
  · refine ⟨nextRec s.cur (2 + area.toNat * s.half + m) (s.half - m) least, fun e => recsM_none e, ⟨fun r first e => ⟨hm, e⟩, ?_⟩⟩
    rw [← recR_eq h1]
    exact refRecord_any h hl hb h2 ha hm least
  · refine ⟨none, fun _ => ?_, ⟨fun r first e => (by cases e), refRecord_end h hl h2 _ least (by omega)⟩⟩
    rw [show s.half - m = 0 by omega]
    cases fuel with
    | zero => rfl
    | succ f => rw [recsM, if_pos rfl]

def RoRel (l g : Nat) (gen area next : Int) (s : DS) (k0 r0 : Nat) (least0 : Int) (w : World) (v vl : Value) (wr : World) : Prop :=
  ∃ (xs : List Sl) (m : Nat) (least : Int) (A : Option Addr) (c : Nat), vl = .int .i64 least ∧ 1 ≤ least ∧ least < 4295100000 ∧ v = .slice A xs.length c ∧ m ≤ r0 ∧ xs.length ≤ m ∧ RLogAt wr l g gen area (m : Int) next ∧
    wr.ownsRow w.heap.size 38 1 v xs.length (vals xs) ∧ SlsIn wr wr.heap.size xs ∧ Chg (fun k => k = l) w wr ∧ Far w.heap.size v.ownBlock xs ∧
    recsM s.cur (r0 + 1) k0 r0 least0 = (lists xs ++ (recsM s.cur (r0 + 1 - xs.length) (k0 + m) (r0 - m) least).1, m + (recsM s.cur (r0 + 1 - xs.length) (k0 + m) (r0 - m) least).2)
/-- what the document's Open answers where the head is there -/
def ROpenRet (g : Nat) (gen area next : Int) (m : Nat) (R : List (List Int)) (w : World) (e : Ending) (w' : World) : Prop :=
  ∃ l v xs, e = .returned (.tuple #[.pointer (some ⟨l, 0, none⟩), v, .int .i64 0]) ∧ w'.ownsRow w.heap.size 38 1 v xs.length (vals xs) ∧ SlsIn w' w'.heap.size xs ∧ lists xs = R ∧
    RLogAt w' l g gen area (m : Int) next ∧ w.heap.size ≤ l ∧ Below w.heap.size w w'

set_option maxRecDepth 100000 in
theorem refOpen_none (h : RefAt w g G s) (hb : AllBytes s.cur) (h10 : 10 ≤ s.last.length) (ho : headOfM s.cur = none) :
    Calls Try.prog 27 #[.pointer (some ⟨g, 0, none⟩)] w fun e w' => e = .returned (.tuple #[.pointer none, .slice none 0 0, .int .i64 42]) ∧ Below w.heap.size w w' := by
  have hle := h.ok.le
  obtain ⟨A, c, c0⟩ := h.last_len
  have H := Lib.hid (And.intro h (And.intro hb ho))
  have h10i : ¬ (s.last.length : Int) < 10 := by omega
  clear h hb ho
  go_enter Try.func27, Try.ntmps27
  go_wp2_with fail
  refine (refNewest_any H.out.1 H.out.2.1 (by omega)).mono ?_
  rw [H.out.2.2]
  rintro e w1 ⟨rfl, hl1⟩
  have HL1 := Lib.hid hl1
  clear hl1
  simp only [nv]
  go_wp2
  go_ret3
  exact ⟨rfl, HL1.out⟩

set_option maxRecDepth 100000 in
set_option maxHeartbeats 6400000 in
theorem refOpen_some (h : RefAt w g G s) (hb : AllBytes s.cur) (h10 : 10 ≤ s.last.length) (gen area first : Int) (ho : headOfM s.cur = some (gen, area, first)) (ha : area = 0 ∨ area = 1) (hg : 1 ≤ gen ∧ gen < 4294967296) (hf : 1 ≤ first ∧ first < 4294967296) :
    Calls Try.prog 27 #[.pointer (some ⟨g, 0, none⟩)] w
      (ROpenRet g gen area (nextM s first) (recsM s.cur (s.half + 1) (2 + area.toNat * s.half) s.half first).2 (recsM s.cur (s.half + 1) (2 + area.toNat * s.half) s.half first).1 w) := by
  have hle := h.ok.le
  have hh := h.half_le
  have hNb := great4_bd hb 2 (2 * s.half)
  obtain ⟨A, c, c0⟩ := h.last_len
  obtain ⟨N, hN⟩ : ∃ N, N = great4 s.cur 2 (2 * s.half) + 1 := ⟨_, rfl⟩
  obtain ⟨X, hX⟩ : ∃ X, X = nextM s first := ⟨_, rfl⟩
  have hX2 : X = if N < first then first else N := by rw [hX, hN]; rfl
  rw [← hX]
  have hNb2 : 1 ≤ N ∧ N ≤ 4294967296 := by omega
  have hhl : 2 + 2 * s.half ≤ s.last.length := by unfold DS.half; omega
  have hnx : great4 s.cur 2 (2 + 2 * s.half - 2) = N - 1 := by rw [hN, show 2 + 2 * s.half - 2 = 2 * s.half by omega]; omega
  obtain ⟨k0, hk0⟩ : ∃ k0, k0 = 2 + area.toNat * s.half := ⟨_, rfl⟩
  obtain ⟨R, hR⟩ : ∃ R, R = recsM s.cur (s.half + 1) k0 s.half first := ⟨_, rfl⟩
  obtain ⟨L0, hL0⟩ : ∃ L0, L0 = first := ⟨_, rfl⟩
  rw [← hk0, ← hR]
  rw [← hL0] at hR
  have hk0l : k0 + s.half ≤ s.cur.length := by
    rw [cur_len, hk0]
    rcases ha with rfl | rfl <;> simp <;> omega
  have HK := Lib.hid (And.intro hk0 (And.intro hR (And.intro hL0 hk0l)))
  clear hk0 hR hL0 hk0l
  have H := Lib.hid (And.intro h (And.intro hb (And.intro ho hnx)))
  have HX := Lib.hid hX2
  have hge : (gen == 0) = false := by simp; omega
  have hgz : ¬ gen = 0 := by omega
  have h10i : ¬ (s.last.length : Int) < 10 := by omega
  clear h hb ho hN hX hX2 hNb hnx
  go_enter Try.func27, Try.ntmps27
  go_wp2_with fail
  refine (refNewest_any H.out.1 H.out.2.1 (by omega)).mono ?_
  rw [H.out.2.2.1]
  rintro e w1 ⟨rfl, hl1⟩
  have HL1 := Lib.hid hl1
  clear hl1 c0
  simp only [nv]
  go_wp2_with fail
  refine (refHalf_any (H.out.1.below HL1.out) (by omega)).mono ?_
  rintro e w1' ⟨rfl, rfl⟩
  go_wp2_with fail
  refine (refMost_at (H.out.1.below HL1.out) H.out.2.1 2 (2 + 2 * (s.half : Int)) 2 (2 + 2 * s.half) rfl (by omega) (by omega) hhl (N - 1) H.out.2.2.2).mono ?_
  rintro e w2 ⟨rfl, hl2⟩
  have HL2 := Lib.hid (HL1.out.trans (hl2.mono HL1.out.size))
  clear hl2
  obtain ⟨i0, hi, hz0, hz1, hz2⟩ := info_parts Try.info38
  have HI := Lib.hid (And.intro hi (And.intro hz0 (And.intro hz1 hz2)))
  clear hi hz0 hz1 hz2
  rcases (by omega : N < first ∨ ¬ N < first) with hc | hc
  case' inl => have hXe : X = first := by rw [HX.out, if_pos hc]
  case' inr => have hXe : X = N := by rw [HX.out, if_neg hc]
  all_goals
    subst hXe
    clear HX
    go_wp2_with fail
    obtain ⟨w4, hw4⟩ : ∃ w4, w4 = w2.alloc (.cells #[.pointer (some ⟨g, 0, none⟩), .int .i64 gen, .int .i64 area, .int .i64 0, .int .i64 X] 46) := ⟨_, rfl⟩
    have hlg4 : RLogAt w4 w2.heap.size g gen area ((0 : Nat) : Int) X := by rw [hw4]; exact Blk.new _ _ _
    have hl4 : Below w.heap.size w w4 := by rw [hw4]; exact HL2.out.alloc HL2.out.size _
    have sz4 : w4.heap.size = w2.heap.size + 1 := by rw [hw4]; exact World.size_alloc _ _
    rw [← hw4]
    clear hw4
    have hnl : ¬ G w2.heap.size := fun e => by
      have h1 := H.out.1.foot _ e
      have h2 := HL2.out.size
      omega
    have H4 := Lib.hid (And.intro hlg4 (And.intro (H.out.1.below hl4) (And.intro hl4 sz4)))
    clear hlg4 hl4
    go_loopw [9, 10] (fun v vl wr => RoRel w2.heap.size g gen area X s k0 s.half L0 w4 v vl wr) (fun v _ _ => s.half + 1 - lenV v)
  case atStart | atStart =>
    refine ⟨[], 0, _, some ⟨w2.heap.size + 1, 0, none⟩, 0, rfl, by omega, by omega, rfl, by omega, by simp, H4.out.1.below ((Below.refl _ _).alloc (Nat.le_refl _) _), ?_, fun x hx => by simp at hx, (Chg.refl _ _).alloc _, fun x hx => by simp at hx, ?_⟩
    · have h1 := World.ownsRow_lit (e := 38) (size := 1) (base := w4.heap.size) w4 #[] 0 (Nat.le_refl _) (by simp [maxLen]) (by simp)
      rw [sz4] at h1 ⊢
      exact h1
    · rw [HK.out.2.2.1]; simp [lists]
  all_goals
    obtain ⟨xs, m, lst, A, c, rfl, hls1, hls2, rfl, hm, hxm, hlg, hown, hsl, hchg, hfar, heq⟩ := hrel
    have hdw : RefAt wr g G s := H4.out.2.1.chg hchg fun k hk e => hnl (e ▸ hk)
    obtain ⟨o, ho1, ho2, hcall⟩ := refRecord_q (fuel := s.half + 1 - xs.length) hdw hlg H.out.2.1 (by omega) ha hm lst hls1
    rw [← HK.out.1] at ho1 ho2
    obtain ⟨d0, d1, d2, d3, d4⟩ := hlg.c
    have hf3 := hlg.frozen 3
    have HW := Lib.hid (And.intro hlg (And.intro hown (And.intro hsl (And.intro hchg (And.intro heq (And.intro hdw (And.intro ho1 (And.intro ho2 hfar))))))))
    have HCL := Lib.hid hcall
    have hwl : w2.heap.size < wr.heap.size := hlg.lt
    have hmb : m ≤ 32767 := by omega
    clear hlg hown hsl hchg heq hdw hfar ho1 ho2 hcall
    go_wp2_with fail
    refine HCL.out.mono ?_
    rintro e w5 ⟨hb5, hm5⟩
    cases o with
    | none =>
      subst hm5
      have HB5 := Lib.hid hb5
      clear hb5
      go_wp2
      go_ret3
      obtain ⟨hlg, hown, hsl, hchg, heq, hdw, ho1, ho2, hfar⟩ := HW.out
      rw [ho1 (by trivial)] at heq
      rw [HK.out.2.1, heq]
      refine ⟨w2.heap.size, _, xs, rfl, own_base (own_below hown HB5.out (Nat.le_refl _)) H4.out.2.2.1.size, (hsl.below HB5.out (Nat.le_refl _)).more HB5.out.size, by simp, hlg.below HB5.out, HL2.out.size, ?_⟩
      exact H4.out.2.2.1.trans (Chg.below (hchg.trans (Chg.of_below HB5.out)) (fun k hk => by rw [hk]; exact HL2.out.size) H4.out.2.2.1.size)
    | some p =>
      obtain ⟨r, fst⟩ := p
      obtain ⟨A2, c2, rfl, hr2, hrc2, hcm2, hnew2⟩ := hm5
      obtain ⟨hmh, hnr⟩ := HW.out.2.2.2.2.2.2.2.1 r fst rfl
      obtain ⟨q1, q2, q3, q4, q5, q6, q7⟩ := nextRec_some (C := s.cur) (lay_all H.out.1.ok.len fun p hp => (H.out.1.ok.wlen p hp).2) H.out.2.1 (by have := HK.out.2.2.2; omega) hnr
      clear q6 q7
      obtain ⟨need, hne⟩ : ∃ need, need = secsOf r.length := ⟨_, rfl⟩
      obtain ⟨L, hL⟩ : ∃ L, L = r.length := ⟨_, rfl⟩
      have hnb : 1 ≤ need ∧ need ≤ s.half - m := by rw [hne]; exact ⟨by unfold secsOf; omega, q2⟩
      rw [← hne]
      rw [← hL] at q1 hr2 hrc2 ⊢
      have hlg2 := HW.out.1.below hb5
      have hown2 := own_below HW.out.2.1 hb5 (Nat.le_refl _)
      clear d0 d1 d2 d3 d4 hf3
      obtain ⟨d0, d1, d2, d3, d4⟩ := hlg2.c
      have hf3 := hlg2.frozen 3
      have HN := Lib.hid (And.intro hne (And.intro hL (And.intro hr2 (And.intro hrc2 (And.intro hcm2 (And.intro hb5 (And.intro hlg2 (And.intro hown2 (And.intro hnew2 hnr)))))))))
      have hsz2 : w4.heap.size ≤ w5.heap.size := Nat.le_trans HW.out.2.2.2.1.size hb5.size
      have hxr : xs.length ≤ 40000 := by omega
      have hlw2 : w2.heap.size < w5.heap.size := by omega
      have hnz : ((need : Int) == 0) = false := by simp; omega
      have hnz2 : ¬ (need : Int) = 0 := by omega
      clear hne hL hr2 hrc2 hcm2 hb5 hlg2 hown2 q2 hnew2 hnr
      go_wp2_with (at_builtin; refine wpList_append_lies _ rfl (.tmp 59) (.tmp 61) 39 rfl w4.heap.size 38 i0 (.slice none 0 0) 1 24 Try.underlying39 HI.out.1 HI.out.2.1 HI.out.2.2.1 HI.out.2.2.2 rfl (by omega) _ _ _ rfl (by exact HN.out.2.2.2.2.2.2.2.1.alloc _) ⟨w5.heap.size, 0, none⟩ 1 1 [.slice A2 L c2] rfl rfl ?e2 (by simp [Value.oneCell']) (by omega) ?e3 ?e4 ?e5 (w5.heap.size + 1) (World.size_alloc _ _) ?_)
      case e2 =>
        intro j u hu
        rcases j with _ | j
        · obtain rfl := Option.some.inj hu
          exact (Blk.new w5 38 #[.slice A2 L c2]).cell 0
        · simp at hu
      case e3 => unfold maxLen; omega
      case e4 => omega
      case e5 => rw [World.size_alloc]; omega
      intro g3 cap3 w3 ho3 hg3 hat3 hlt3
      have hol : (Value.slice A xs.length c).ownBlock ≠ some w2.heap.size := dkown_ne HN.out.2.2.2.2.2.2.2.1 HN.out.2.2.2.2.2.2.1 (by decide)
      have hlg3 : RLogAt w3 w2.heap.size g gen area m X := (Blk.alloc HN.out.2.2.2.2.2.2.1 _).grown hg3 hol
      have hgl3 : g3 ≠ w2.heap.size := by
        rcases hat3 with e | e
        · rintro rfl; exact hol e
        · omega
      have hB3 : Below w4.heap.size (w5.alloc (.cells #[.slice A2 L c2] 38)) w3 := below_own (HN.out.2.2.2.2.2.2.2.1.alloc _) hg3 (by rw [World.size_alloc]; omega)
      have hb3 : Chg (fun k => k = w2.heap.size) w4 w3 := ((HW.out.2.2.2.1.trans (Chg.of_below HN.out.2.2.2.2.2.1)).alloc (.cells #[.slice A2 L c2] 38)).then_below hB3
      clear d0 d1 d2 d3 d4 hf3
      obtain ⟨d0, d1, d2, d3, d4⟩ := hlg3.c
      have hf3 := hlg3.frozen 3
      have hlA : RLogAt (w3.setCell ⟨w2.heap.size, 3, none⟩ (.int .i64 ((m : Int) + (need : Int)))) w2.heap.size g gen area ((m + need : Nat) : Int) X := by
        rw [show ((m + need : Nat) : Int) = (m : Int) + (need : Int) by omega]
        exact hlg3.put3 _
      have hchA := hb3.setCell (p := ⟨w2.heap.size, 3, none⟩) (fun _ => rfl) (.int .i64 ((m : Int) + (need : Int)))
      have hownA := own_set ho3 (p := ⟨w2.heap.size, 3, none⟩) (by simp [Value.ownBlock]; exact hgl3) (.int .i64 ((m : Int) + (need : Int)))
      have hfr : 0 < L → ∀ ad, A2 = some ad → w4.heap.size ≤ ad.block ∧ (Value.slice A xs.length c).ownBlock ≠ some ad.block := fun h0 ad had => by
        have h1 : wr.heap.size ≤ ad.block := HN.out.2.2.2.2.2.2.2.2.1 ad had
        refine ⟨Nat.le_trans HW.out.2.2.2.1.size h1, fun e => ?_⟩
        have h2 := (HW.out.2.1.lt _ e).1
        have h3 := (HW.out.2.1.lt _ e).2
        omega
      have hcar : ∀ (A' : Option Addr) (n' : Nat) (ys : List Value), Rd w5 w5.heap.size A' n' ys → (0 < n' → ∀ ad, A' = some ad → w4.heap.size ≤ ad.block ∧ (Value.slice A xs.length c).ownBlock ≠ some ad.block) →
          Rd (w3.setCell ⟨w2.heap.size, 3, none⟩ (.int .i64 ((m : Int) + (need : Int)))) (w3.setCell ⟨w2.heap.size, 3, none⟩ (.int .i64 ((m : Int) + (need : Int)))).heap.size A' n' ys := fun A' n' ys h1 h2 => by
        have h3 := ((h1.alloc (Nat.le_refl _) (.cells #[.slice A2 L c2] 38)).grown (by rw [World.size_alloc]; omega) hg3 fun h0 ad had => (h2 h0 ad had).2)
        have h4 := h3.put_far (p := ⟨w2.heap.size, 3, none⟩) (fun h0 ad had => by have := (h2 h0 ad had).1; simp only [ne_eq]; omega) (.int .i64 ((m : Int) + (need : Int)))
        exact h4.more (by have e1 := hg3.size; rw [World.size_alloc] at e1; have e2 : (w3.setCell ⟨w2.heap.size, 3, none⟩ (.int .i64 ((m : Int) + (need : Int)))).heap.size = w3.heap.size := by simp [World.setCell]
                          omega)
      have HF : Hid (RoRel w2.heap.size g gen area X s k0 s.half L0 w4 (.slice (some ⟨g3, 0, none⟩) (xs.length + 1) cap3) (.int .i64 (fst + (need : Int))) (w3.setCell ⟨w2.heap.size, 3, none⟩ (.int .i64 ((m : Int) + (need : Int))))) := by
        refine Lib.hid ⟨xs ++ [⟨A2, L, c2, r⟩], m + need, fst + need, some ⟨g3, 0, none⟩, cap3, rfl, by omega, by omega, by simp, by omega, by simp; omega, hlA, ?_, ?_, hchA, ?_, ?_⟩
        · rw [List.length_append, List.length_singleton, show vals (xs ++ [⟨A2, L, c2, r⟩]) = vals xs ++ [.slice A2 L c2] by simp [vals, Sl.val]]
          rw [sz4]; exact hownA
        · intro x hx
          rcases List.mem_append.1 hx with hx | hx
          · obtain ⟨h1, h2⟩ := HW.out.2.2.1 x hx
            exact ⟨hcar _ _ _ ((h1.below HN.out.2.2.2.2.2.1 (Nat.le_refl _)).more HN.out.2.2.2.2.2.1.size) (HW.out.2.2.2.2.2.2.2.2 x hx), h2⟩
          · rw [List.mem_singleton.1 hx]
            exact ⟨hcar _ _ _ HN.out.2.2.1 hfr, HN.out.2.2.2.1, HN.out.2.2.2.2.1⟩
        · intro x hx h0 ad had
          rcases List.mem_append.1 hx with hx | hx
          · have h1 := HW.out.2.2.2.2.2.2.2.2 x hx h0 ad had
            refine ⟨h1.1, ?_⟩
            obtain ⟨_, e, hlt, _⟩ := (HW.out.2.2.1 x hx).1.2 h0
            rw [had] at e
            obtain rfl := Option.some.inj e
            rcases hat3 with e | e
            · rw [e] at h1; exact h1.2
            · have := HN.out.2.2.2.2.2.1.size
              simp only [Value.ownBlock, ne_eq, Option.some.injEq]
              omega
          · have hx' := List.mem_singleton.1 hx
            subst hx'
            change A2 = some ad at had
            have h1 := hfr h0 ad had
            refine ⟨h1.1, ?_⟩
            obtain ⟨_, e, hlt, _⟩ := HN.out.2.2.1.2 h0
            rw [had] at e
            obtain rfl := Option.some.inj e
            rcases hat3 with e | e
            · rw [e] at h1; exact h1.2
            · simp only [Value.ownBlock, ne_eq, Option.some.injEq]
              omega
        · have h1 := HW.out.2.2.2.2.1
          rw [show s.half + 1 - xs.length = (s.half - xs.length) + 1 by omega, recsM_some (by omega) HN.out.2.2.2.2.2.2.2.2.2, ← HN.out.1] at h1
          rw [h1, show (xs ++ [(⟨A2, L, c2, r⟩ : Sl)]).length = xs.length + 1 by simp, show s.half + 1 - (xs.length + 1) = s.half - xs.length by omega, show k0 + (m + need) = k0 + m + need by omega, show s.half - (m + need) = s.half - m - need by omega]
          simp [lists, Nat.add_assoc]
      clear hlA hchA hownA hlg3 hb3 hB3 ho3 hg3 hat3 hcar hfr
      go_wp2
      go_roundw
      case rel => exact HF.out
      case measure => simp only [lenV]; omega
end
end Go.Proofs.Ytehghjakggdnpaa
