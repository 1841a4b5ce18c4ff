/-
  The contract of quoted.
-/
import Derived.Test.YtkdcnkadngbccaaGreatDoorOrd
import Derived.Laws.IdiomStrings
import Derived.Deep.AppendLies
import Derived.Deep.RegionLaw
namespace Go.Proofs.YtkdcnkadngbccaaGreatDoor
open Go.RowKit Go.Lib

/-- the string that a conversion makes of bytes is known by its bytes -/
theorem run_strw {P : Program} (w : World) (src dst e : TypeId) (A : Option Addr) (m c B : Nat) (l : List Int) (hs : P.underlying src = some (.slice e)) (he : P.underlying e = some (.int .u8)) (hd : P.underlying dst = some .string)
    (hr : Rd w B A m (cells l)) : (convert src dst (.slice A m c)).run P w = .ok (.string (mkStr l)) w := by
  rw [run_convert_bytes_string w src dst e A m c hs he hd]
  obtain ⟨hl, hc⟩ := hr
  rw [cells_len] at hl
  rcases A with _ | a
  · have hm : m = 0 := by
      rcases Nat.eq_zero_or_pos m with h0 | h0
      · exact h0
      · obtain ⟨_, h, _⟩ := hc h0; cases h
    have hn : l = [] := List.eq_nil_of_length_eq_zero (by omega)
    subst hn
    subst hm
    rfl
  · have hh := run_loadCells_list (P := P) w a (cells l) (fun j v hj => by
      have hj' : j < (cells l).length := (List.getElem?_eq_some_iff.1 hj).1
      rw [cells_len] at hj'
      obtain ⟨ad, e1, _, h2⟩ := hc (by omega)
      obtain rfl := Option.some.inj e1
      exact h2 j v hj)
    rw [cells_len, hl] at hh
    exact run_bytesToString w a m c l hh

theorem addr_mid (b o k : Nat) : (⟨b, o, none⟩ : Addr).add k = ⟨b, o + k, none⟩ := by unfold Addr.add; split <;> simp_all
def isPl (c : Int) : Bool := decide (32 ≤ c) && (decide (c ≤ 126) && (decide (c ≠ 34) && decide (c ≠ 92)))
theorem isPlain_any (c : Int) (w : World) : Calls Tryz.prog 67 #[.int .u8 c] w fun e w' => e = .returned (.bool (isPl c)) ∧ w' = w := by
  by_cases h1 : 32 ≤ c
  · by_cases h2 : c ≤ 126
    · by_cases h3 : c = 34
      · subst h3
        go_enter Tryz.func67, Tryz.ntmps67
        go_wp2
        go_ret
        exact ⟨rfl, rfl⟩
      · by_cases h4 : c = 92
        · subst h4
          go_enter Tryz.func67, Tryz.ntmps67
          go_wp2
          go_ret
          exact ⟨rfl, rfl⟩
        · have e3 : (c != 34) = true := by simp [h3]
          have e4 : (c != 92) = true := by simp [h4]
          have HR := Lib.hid (show isPl c = true by simp [isPl, h1, h2, h3, h4])
          go_enter Tryz.func67, Tryz.ntmps67
          go_wp2
          go_ret
          exact ⟨by rw [HR.out]; rfl, rfl⟩
    · have HR := Lib.hid (show isPl c = false by simp [isPl, h2])
      go_enter Tryz.func67, Tryz.ntmps67
      go_wp2
      go_ret
      exact ⟨by rw [HR.out]; rfl, rfl⟩
  · have HR := Lib.hid (show isPl c = false by simp [isPl, h1])
    go_enter Tryz.func67, Tryz.ntmps67
    go_wp2
    go_ret
    exact ⟨by rw [HR.out]; rfl, rfl⟩

/-- a digit to the base 16 -/
def hexd (d : Int) : Int := if d < 10 then 48 + d else 87 + d
def qB (c : Int) : List Int := if isPl c then [c] else [92, hexd (c / 16), hexd (c % 16)]
def qBs : List Int → List Int
  | [] => []
  | c :: l => qB c ++ qBs l
theorem qBs_append (a b : List Int) : qBs (a ++ b) = qBs a ++ qBs b := by
  induction a with
  | nil => rfl
  | cons c l ih => simp [qBs, ih]
def quoteL (l : List Int) : List Int := 34 :: qBs l ++ [34]
theorem qB_len (c : Int) : (qB c).length ≤ 3 := by unfold qB; split <;> simp
theorem qBs_len (l : List Int) : (qBs l).length ≤ 3 * l.length := by
  induction l with
  | nil => simp [qBs]
  | cons c l ih => have := qB_len c; simp only [qBs, List.length_append, List.length_cons]; omega
theorem idx_hex (d : Int) (h0 : 0 ≤ d) (h1 : d < 16) (w : World) :
    (Instr.index 9 (.string ⟨#[48, 49, 50, 51, 52, 53, 54, 55, 56, 57, 97, 98, 99, 100, 101, 102]⟩) (.int .u8 d)).run Tryz.prog w = .ok (.int .u8 (hexd d)) w := by
  rw [run_index_string w 9 _ .u8 d Tryz.underlying9]
  have hd : 0 ≤ d ∧ d < ((⟨#[48, 49, 50, 51, 52, 53, 54, 55, 56, 57, 97, 98, 99, 100, 101, 102]⟩ : ByteArray).size : Int) := ⟨h0, h1⟩
  rw [dif_pos hd]
  have h2 : d = 0 ∨ d = 1 ∨ d = 2 ∨ d = 3 ∨ d = 4 ∨ d = 5 ∨ d = 6 ∨ d = 7 ∨ d = 8 ∨ d = 9 ∨ d = 10 ∨ d = 11 ∨ d = 12 ∨ d = 13 ∨ d = 14 ∨ d = 15 := by omega
  rcases h2 with rfl | rfl | rfl | rfl | rfl | rfl | rfl | rfl | rfl | rfl | rfl | rfl | rfl | rfl | rfl | rfl <;> rfl

/-- a block with a mark is no row of the call's own -/
theorem own_marked {w : World} {base : Nat} {e t : TypeId} {size : Nat} {v : Value} {n : Nat} {xs : List Value} {g : Nat} {cs : Array Value} {a b : Nat} (h : w.ownsRow base e size v n xs) (hg : w.heap[g]? = some (.cells cs t (a, b + 1))) : v.ownBlock ≠ some g := by
  intro he
  rcases h.2 with ⟨rfl, _⟩ | ⟨k, cap, cur, rfl, _, hk, _⟩
  · simp [Value.ownBlock] at he
  · simp only [Value.ownBlock, Option.some.injEq] at he
    subst he
    rw [hg] at hk
    simp at hk

theorem bytesRow_cells (w : World) (s : ByteArray) (cap : Nat) (fr : Nat × Nat) : ∀ j u, (strCells s)[j]? = some u → ((w.alloc (.cells (bytesRow s cap) 5 fr)).drew).cell? ((⟨w.heap.size, 0, none⟩ : Addr).add j) = some u := by
  intro j u hu
  have hadd : (⟨w.heap.size, 0, none⟩ : Addr).add j = ⟨w.heap.size, j, none⟩ := by unfold Addr.add; split <;> simp_all
  rw [hadd]
  show (w.alloc (.cells (bytesRow s cap) 5 fr)).cell? _ = _
  rw [World.cell?_alloc_mark, ← hu, bytesRow]
  have hj : j < s.data.size := by
    have := (List.getElem?_eq_some_iff.1 hu).1
    rwa [strCells_length] at this
  rw [Array.getElem?_append_left (by simpa using hj)]
  simp [strCells]

/-- what holds at the head of quoted's loop -/
def QuRel (w : World) (l : List Int) (g : Nat) (v i : Value) (wr : World) : Prop :=
  ∃ k : Nat, k ≤ l.length ∧ i = .int .i64 k ∧ wr.ownsRow w.heap.size 5 1 v (34 :: qBs (l.take k)).length (cells (34 :: qBs (l.take k))) ∧ Below w.heap.size w wr ∧
    Rd wr wr.heap.size (some ⟨g, 0, none⟩) l.length (cells l) ∧ (∃ cs a b, wr.heap[g]? = some (.cells cs 5 (a, b + 1)))

theorem QuRel.step {w wr w1 : World} {l : List Int} {g k : Nat} {v v' : Value} {n : Nat} {m : List Int} (hk : k < l.length) (hown : wr.ownsRow w.heap.size 5 1 v (34 :: qBs (l.take k)).length (cells (34 :: qBs (l.take k)))) (hb : Below w.heap.size w wr)
    (hr : Rd wr wr.heap.size (some ⟨g, 0, none⟩) l.length (cells l)) (hg : ∃ cs a b, wr.heap[g]? = some (.cells cs 5 (a, b + 1))) (hm : m = qB (l[k]'hk)) (hn : n = (34 :: qBs (l.take k)).length + m.length)
    (o : Obj) (hown1 : w1.ownsRow w.heap.size 5 1 v' n (cells (34 :: qBs (l.take k)) ++ cells m)) (hgr : (wr.alloc o).grownBy w1 v.ownBlock) :
    QuRel w l g v' (.int .i64 ((k : Int) + 1)) w1 := by
  have e1 : l.take (k + 1) = l.take k ++ [l[k]'hk] := by rw [List.take_succ_eq_append_getElem hk]
  have e2 : qBs (l.take (k + 1)) = qBs (l.take k) ++ m := by rw [e1, qBs_append, hm]; simp [qBs]
  obtain ⟨cs, a, b, hg⟩ := hg
  have hlt : g < wr.heap.size := (Array.getElem?_eq_some_iff.1 hg).1
  have hne := own_marked hown hg
  have hg1 : w1.heap[g]? = wr.heap[g]? := by
    rw [hgr.block g (by simp; omega) (fun e => hne e.symm)]
    exact Below.heap_alloc wr o g hlt
  have hsz := hgr.size
  simp only [World.size_alloc] at hsz
  refine ⟨k + 1, by omega, by go_num, ?_, ?_, ?_, cs, a, b, hg1.trans hg⟩
  · rw [e2]
    have e3 : (34 :: (qBs (l.take k) ++ m)).length = n := by rw [hn]; simp; omega
    have e4 : cells (34 :: (qBs (l.take k) ++ m)) = cells (34 :: qBs (l.take k)) ++ cells m := by simp [cells]
    rw [e3, e4]; exact hown1
  · exact (hb.alloc hb.size o).trans (below_own (hown.alloc o) hgr (by have := hb.size; simp; omega))
  · refine ⟨hr.1, fun h0 => ?_⟩
    obtain ⟨ad, e, _, hc⟩ := hr.2 h0
    obtain rfl := Option.some.inj e
    refine ⟨_, rfl, by show g < _; omega, fun j u hu => ?_⟩
    have hblk : ((⟨g, 0, none⟩ : Addr).add j).block = g := addr_block _ _
    rw [World.cell?_of_block (w := wr) (by rw [hblk]; exact hg1)]
    exact hc j u hu

set_option maxRecDepth 100000 in
set_option maxHeartbeats 1600000 in
theorem quoted_any (s : ByteArray) (w : World) (hs : s.size ≤ 30000000000000) :
    Calls Tryz.prog 50 #[.string s] w fun e w' => e = .returned (.string (mkStr (quoteL (bytes s)))) ∧ Below w.heap.size w w' := by
  obtain ⟨i0, hi, hz0, hz1, hz2⟩ := info_parts Tryz.info5
  have hcv := fun w => run_bytes_of_string (P := Tryz.prog) w 9 25 5 s Tryz.underlying9 Tryz.underlying25 Tryz.underlying5
  have hbl := bytes_len s
  have hlen : (bytes s).length ≤ 30000000000000 := by omega
  obtain ⟨l, hl⟩ : ∃ l, l = bytes s := ⟨_, rfl⟩
  have hib := bytes_is s
  rw [← hl] at hbl hlen hib ⊢
  have HS := Lib.hid (And.intro hl (And.intro hbl hib))
  clear hs hl hbl hib
  go_enter Tryz.func50, Tryz.ntmps50
  go_wp2_with fail
  rw [← HS.out.2.1]
  go_loopw [3, 10] (fun v i wr => QuRel w l (w.heap.size + 1) v i wr) (fun _ i _ => l.length - (intOf i).toNat)
  case atStart =>
    have h0 := World.ownsRow_lit (base := w.heap.size) (size := 1) (e := 5) w #[.int .u8 34] 1 (Nat.le_refl _) (by simp [maxLen]) (by simp)
    have hsz : (w.alloc (.cells #[.int .u8 34] 5)).heap.size = w.heap.size + 1 := by simp
    have hr := bytesRow_cells (w.alloc (.cells #[.int .u8 34] 5)) s
    rw [hsz] at hr
    refine ⟨0, by omega, rfl, (h0.alloc _).drew, (((Below.refl _ w).alloc (Nat.le_refl _) _).alloc (by simp) _).drew, ⟨by simp [cells], fun _ => ⟨_, rfl, by show w.heap.size + 1 < _; simp, fun j u hu => hr _ _ j u (by rw [strCells_eq, ← HS.out.1]; exact hu)⟩⟩, ?_⟩
    have hnew := fun o => Go.heap_alloc_new (w.alloc (.cells #[.int .u8 34] 5)) o
    rw [hsz] at hnew
    exact ⟨_, _, _, hnew _⟩
  case round =>
    obtain ⟨k, hk, rfl, hown, hb, hr, hg⟩ := hrel
    have hk0 : (0 : Int) ≤ (k : Int) := Int.natCast_nonneg _
    by_cases hlt : k < l.length
    · have hlt1 : (k : Int) < (l.length : Int) := by omega
      obtain ⟨ad, u, e, _, hu, hc⟩ := hr.at_ hlt
      obtain rfl := Option.some.inj e
      rw [addr_mid, Nat.zero_add] at hc
      obtain ⟨c, hcl⟩ : ∃ c, c = l[k]'hlt := ⟨_, rfl⟩
      have hcb := HS.out.2.2 c (by rw [hcl]; exact List.getElem_mem _)
      obtain rfl : u = .int .u8 c := by
        rw [cells, List.getElem?_map, List.getElem?_eq_getElem hlt] at hu
        rw [hcl]; exact (Option.some.inj hu).symm
      have hqk := qBs_len (l.take k)
      rw [List.length_take] at hqk
      have HQ := Lib.hid (And.intro hown (And.intro hb (And.intro hr (And.intro hg (And.intro hcl hqk)))))
      have hsz := hb.size
      clear hown hb hr hg hcl hu hqk
      go_wp2_with fail
      refine (isPlain_any c _).mono ?_
      rintro e w2 ⟨rfl, hw⟩
      obtain rfl : wr = w2 := hw.symm
      by_cases hpl : isPl c = true
      · rw [hpl]
        have HP := Lib.hid (show [c] = qB c by unfold qB; rw [if_pos hpl])
        clear hpl
        go_wp2_with (at_builtin; refine wpList_append_own _ rfl (.tmp 16) (.tmp 18) 25 rfl w.heap.size 5 i0 (.int .u8 0) 1 1 Tryz.underlying25 hi hz0 hz1 hz2 rfl (by decide) _ _ _ rfl (HQ.out.1.alloc _) ⟨wr.heap.size, 0, none⟩ 1 1 [.int .u8 c] rfl rfl (cell_one_new _ _ _) ?c2 ?c3 ?c4 ?c5 ?_)
        case c2 => intro u hu; simp at hu; subst hu; rfl
        case c3 => have := HQ.out.2.2.2.2.2; simp [maxLen]; omega
        case c4 => have := HQ.out.2.2.2.2.2; simp; omega
        case c5 => simp; omega
        intro v' w1 hown1 hgrow _
        have hfin := Lib.hid (QuRel.step (m := [c]) hlt HQ.out.1 HQ.out.2.1 HQ.out.2.2.1 HQ.out.2.2.2.1 (by rw [HP.out, HQ.out.2.2.2.2.1]) rfl _ hown1 hgrow)
        clear hown1 hgrow hc
        go_wp2
        go_roundw
        case rel => exact hfin.out
        case measure => simp [intOf]; omega
      · have hpl' : isPl c = false := by simpa using hpl
        rw [hpl']
        have HP := Lib.hid (show [92, hexd (c / 16), hexd (c % 16)] = qB c by unfold qB; rw [if_neg hpl])
        clear hpl hpl'
        have hq0 := idx_hex (c / 16) (by omega) (by omega)
        have hq1 := idx_hex (c % 16) (by omega) (by omega)
        have hw1 : IntKind.u8.wrap (c.tdiv 16) = c / 16 := by rw [Int.tdiv_eq_ediv_of_nonneg hcb.1]; exact IntWalk.u8_in _ (by omega)
        have hw2 : IntKind.u8.wrap (c.tmod 16) = c % 16 := by rw [Int.tmod_eq_emod_of_nonneg hcb.1]; exact IntWalk.u8_in _ (by omega)
        have hw3 : c.tmod 16 = c % 16 := Int.tmod_eq_emod_of_nonneg hcb.1
        go_wp2_with fail
        go_region_law (refine step_append_lies _ rfl (.tmp 20) (.tmp 27) 25 rfl w.heap.size 5 i0 (.int .u8 0) 1 1 Tryz.underlying25 hi hz0 hz1 hz2 rfl (by decide) _ _ _ (by rfl) (by exact HQ.out.1.alloc _) ⟨wr.heap.size, 0, none⟩ 3 3 [.int .u8 92, .int .u8 (hexd (c / 16)), .int .u8 (hexd (c % 16))] (by rfl) rfl (by exact World.news_of_block (Go.heap_alloc_new _ _)) (by intro u hu; simp at hu; rcases hu with rfl | rfl | rfl <;> rfl) (by decide) (by have := HQ.out.2.2.2.2.2; simp [maxLen]; omega) (by have := HQ.out.2.2.2.2.2; simp; omega) (by simp; omega) _ rfl ?_; intro g1 cap1 w1 hown1 hgrow _ _)
        all_goals
          have hfin := Lib.hid (QuRel.step (m := [92, hexd (c / 16), hexd (c % 16)]) hlt HQ.out.1 HQ.out.2.1 HQ.out.2.2.1 HQ.out.2.2.2.1 (by rw [HP.out, HQ.out.2.2.2.2.1]) rfl _ hown1 ⟨hgrow.os, hgrow.tape, hgrow.output, hgrow.size, hgrow.block⟩)
          clear hown1 hgrow hc
          go_wp2
          go_roundw
          case rel => exact hfin.out
          case measure => simp [intOf]; omega
    · have hlt1 : ¬ (k : Int) < (l.length : Int) := by omega
      have hkk : k = l.length := by omega
      subst hkk
      rw [List.take_length] at hown
      have hql := qBs_len l
      have HQ := Lib.hid (And.intro hown (And.intro hb hql))
      have hsz := hb.size
      clear hown hb hr hg hql
      go_wp2_with (at_builtin; refine wpList_append_own _ rfl (.tmp 30) (.tmp 31) 25 rfl w.heap.size 5 i0 (.int .u8 0) 1 1 Tryz.underlying25 hi hz0 hz1 hz2 rfl (by decide) _ _ _ rfl (HQ.out.1.alloc _) ⟨wr.heap.size, 0, none⟩ 1 1 [.int .u8 34] rfl rfl (cell_one_new _ _ _) ?d2 ?d3 ?d4 ?d5 ?_)
      case d2 => first | rfl | (intro u hu; simp at hu; subst hu; rfl)
      case d3 => have := HQ.out.2.2; simp [maxLen]; omega
      case d4 => have := HQ.out.2.2; simp; omega
      case d5 => first | omega | (simp; omega)
      intro v' w1 hown1 hgrow _
      have hown2 : w1.ownsRow w.heap.size 5 1 v' (quoteL l).length (cells (quoteL l)) := by
        have e1 : (quoteL l).length = (34 :: qBs l).length + 1 := by simp [quoteL]
        have e2 : cells (quoteL l) = cells (34 :: qBs l) ++ [.int .u8 34] := by simp [quoteL, cells]
        rw [e1, e2]; exact hown1
      obtain ⟨A2, c2, rfl, _, _⟩ := own_shape hown2
      have hst := run_strw (P := Tryz.prog) w1 25 9 5 A2 (quoteL l).length c2 _ (quoteL l) Tryz.underlying25 Tryz.underlying5 Tryz.underlying9 (Rd.of_own hown2)
      have HB := Lib.hid ((HQ.out.2.1.alloc hsz _).trans (below_own (HQ.out.1.alloc _) hgrow (by simp; omega)))
      clear hown1 hown2 hgrow
      go_wp2
      go_ret
      exact ⟨rfl, HB.out⟩
end Go.Proofs.YtkdcnkadngbccaaGreatDoor
