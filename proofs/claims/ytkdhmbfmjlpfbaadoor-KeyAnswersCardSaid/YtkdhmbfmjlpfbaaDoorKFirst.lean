/-
  The contract of first.
-/
import Derived.Test.YtkdhmbfmjlpfbaaDoorKNo
import Derived.Test.YtkdhmbfmjlpfbaaDoorKEnc
import Derived.Deep.RegionWith
import Derived.RegionTactic
import Derived.ChangeAlike
namespace Go.Proofs.YtkdhmbfmjlpfbaaDoor
open Go.RowKit Go.Lib

theorem bytes_extract (s : ByteArray) (a b : Nat) : bytes (s.extract a b) = ((bytes s).take b).drop a := by
  rw [bytes_data, bytes_data, ByteArray.data_extract, Array.toList_extract]
  simp [List.extract, List.drop_take]
theorem slice_from (s : ByteArray) (a : Nat) (h : a ≤ s.size) : ∃ r : ByteArray, bytes r = (bytes s).drop a ∧ ∀ w i, i = (a : Int) → (Instr.slice 9 (.string s) (some (.int .i64 i)) none none).run Tryd.prog w = .ok (.string r) w := by
  refine ⟨s.extract a s.size, ?_, fun w i hi => ?_⟩
  · rw [bytes_extract, List.take_of_length_le (by rw [bytes_len]; exact Nat.le_refl _)]
  · subst hi
    rw [run_slice_string_from_if _ _ _ _ _ Tryd.underlying9, if_pos (by omega)]
    rfl
theorem slice_to (s : ByteArray) (a : Nat) (h : a ≤ s.size) : ∃ r : ByteArray, bytes r = (bytes s).take a ∧ ∀ w i, i = (a : Int) → (Instr.slice 9 (.string s) none (some (.int .i64 i)) none).run Tryd.prog w = .ok (.string r) w := by
  refine ⟨s.extract 0 a, ?_, fun w i hi => ?_⟩
  · rw [bytes_extract]; rfl
  · subst hi
    rw [run_slice_string_to_if _ _ _ _ _ Tryd.underlying9, if_pos (by omega)]
    rfl

/-- what first hands back: a value and what is behind it, less than there was; of a right value's bytes just that value -/
def FirstRet (s : ByteArray) (w : World) (e : Ending) (w' : World) : Prop :=
  ∃ (x : Va) (r : ByteArray), e = .returned (.tuple #[.agg #[.int .i64 x.k, .int .i64 x.n, .string x.s], .string r]) ∧ Below w.heap.size w w' ∧ r.size < s.size ∧ InN x ∧
    ∀ y l, rightVa y = true → InN y → bytes s = keyV y ++ l → x = y ∧ bytes r = l

/-- two structs that the call has made -/
theorem two_blk (w : World) (c1 c2 : Array Value) : ∃ wq, wq = ((w.alloc (.cells c1 43)).alloc (.cells c2 43)).drew ∧ Blk wq w.heap.size 43 c1 ∧ Blk wq (w.heap.size + 1) 43 c2 ∧ Below w.heap.size w wq := by
  refine ⟨_, rfl, ((Blk.new w _ c1).alloc _).drew, ?_, (((Below.refl _ _).alloc (Nat.le_refl _) _).alloc (by simp) _).drew⟩
  have h := Blk.new (w.alloc (.cells c1 43)) 43 c2
  simpa using h.drew
theorem Blk.c3 {w : World} {g : Nat} {t : TypeId} {a b c : Value} (h : Blk w g t #[a, b, c]) : w.cell? ⟨g, 0, none⟩ = some a ∧ w.cell? ⟨g, 1, none⟩ = some b ∧ w.cell? ⟨g, 2, none⟩ = some c ∧
    w.frozen? ⟨g, 0, none⟩ = false ∧ w.frozen? ⟨g, 1, none⟩ = false ∧ w.frozen? ⟨g, 2, none⟩ = false := ⟨h.cell 0, h.cell 1, h.cell 2, h.frozen 0, h.frozen 1, h.frozen 2⟩
theorem wrap64_in64 (n : Int) : -9223372036854775808 ≤ wrap64 n ∧ wrap64 n ≤ 9223372036854775807 := by unfold wrap64; omega
theorem cut_any (s : ByteArray) (w : World) (hm : Ms w) (hs : s.size ≤ 1000000) :
    Calls Tryd.prog 46 #[.string s, .string ⟨#[0, 1]⟩] w fun e w' => (∃ (b r : ByteArray) (f : Bool), e = .returned (.tuple #[.string b, .string r, .bool f]) ∧ b.size ≤ s.size ∧ r.size ≤ s.size ∧
      ∀ (t : ByteArray) l, bytes s = escB (bytes t) ++ 0 :: 1 :: l → b.data.toList = escU t.data.toList ∧ bytes r = l) ∧ Below w.heap.size w w' := by
  obtain ⟨m, hm⟩ := hm
  refine (Any.strings_Cut Tryd.laysCut s ⟨#[0, 1]⟩ m w (by omega) hm).mono ?_
  rintro e w' ⟨rfl, n, rfl⟩
  refine ⟨⟨_, _, _, rfl, ?_, ?_, fun t l h => ?_⟩, ⟨rfl, rfl, rfl, Nat.le_refl _, fun _ _ => rfl⟩⟩
  · show (cut s.data.toList [0, 1]).1.length ≤ s.data.size
    unfold cut
    split
    · simp; omega
    · simp
  · show (cut s.data.toList [0, 1]).2.1.length ≤ s.data.size
    unfold cut
    split
    · simp
    · simp
  · obtain ⟨r', h1, h2⟩ := cut_bytes s t l h
    have e : cut s.data.toList (⟨#[0, 1]⟩ : ByteArray).data.toList = (escU t.data.toList, r', true) := h1
    rw [e]
    exact ⟨rfl, h2⟩
theorem replaceBack_any (b : ByteArray) (w : World) (hm : Ms w) (hs : b.size ≤ 1000000) :
    Calls Tryd.prog 37 #[.string b, .string ⟨#[0, 255]⟩, .string ⟨#[0]⟩] w fun e w' => (∃ t : ByteArray, e = .returned (.string t) ∧ t.size ≤ 1000000000000 ∧ ∀ u : ByteArray, b.data.toList = escU u.data.toList → t = u) ∧ Below w.heap.size w w' := by
  obtain ⟨m, hm⟩ := hm
  have hc := Lib.countB_le ⟨#[0, 255]⟩ (by decide) b.size b (Nat.le_refl _)
  have hsz : (⟨#[0]⟩ : ByteArray).size = 1 := rfl
  refine (Any.strings_ReplaceAll Tryd.laysRep Tryd.xRep b ⟨#[0, 255]⟩ ⟨#[0]⟩ m w (by omega) hm (by decide) (by rw [hsz]; omega)).mono ?_
  rintro e w' ⟨rfl, hb⟩
  refine ⟨⟨_, rfl, ?_, fun u hu => ?_⟩, hb⟩
  · show (replaceAll b.data.toList [0, 255] [0]).length ≤ _
    rw [replaceAll_rA _ _ _ (by decide)]
    have h : ∀ k (l : List UInt8), (replaceK [0, 255] [0] k l).length ≤ l.length := fun k => by
      induction k with
      | zero => intro l; exact Nat.le_refl _
      | succ k ih =>
        intro l
        unfold replaceK
        split
        · exact Nat.le_refl _
        · rename_i hne
          have hge := index_ge l [0, 255]
          have hne' : index l [0, 255] ≠ -1 := by simpa using hne
          have hroom := index_room l [0, 255] (by omega)
          have h2 := ih (l.drop ((index l [0, 255]).toNat + [0, 255].length))
          simp only [List.length_append, List.length_take, List.length_drop, List.length_cons, List.length_nil] at h2 hroom ⊢
          omega
    have h2 := h (count b.data.toList [0, 255]) b.data.toList
    have h3 : b.data.toList.length = b.size := rfl
    unfold rA
    omega
  · have e : replaceAll b.data.toList (⟨#[0, 255]⟩ : ByteArray).data.toList (⟨#[0]⟩ : ByteArray).data.toList = u.data.toList := by rw [hu]; exact rep_back _
    rw [e]
theorem clone_any (s : ByteArray) (w : World) (hs : s.size ≤ 281474976710656) : Calls Tryd.prog 55 #[.string s] w fun e w' => e = .returned (.string s) ∧ Below w.heap.size w w' :=
  Any.stringslite_Clone Tryd.laysClone s w hs

set_option maxRecDepth 100000 in
set_option maxHeartbeats 6400000 in
theorem first_any (s : ByteArray) (w : World) (h0 : 0 < s.size) (hs : s.size ≤ 1000000) (hMs : Ms w) : Calls Tryd.prog 38 #[.string s] w (FirstRet s w) := by
  have hl : 0 < (bytes s).length := by rw [bytes_len]; exact h0
  obtain ⟨k, hk⟩ : ∃ k, k = (bytes s)[0] := ⟨_, rfl⟩
  have hkb := bytes_is s k (by rw [hk]; exact List.getElem_mem _)
  have hix := str_index s 0 0 rfl hl
  rw [← hk] at hix
  obtain ⟨r, hr, hrun⟩ := slice_from s 1 h0
  have hrun1 := fun w => hrun w 1 rfl
  clear hrun
  have hrl : r.size + 1 = s.size := by
    have h := congrArg List.length hr
    rw [List.length_drop, bytes_len, bytes_len] at h
    omega
  have hcons : bytes s = k :: bytes r := by rw [hr, hk, ← List.drop_eq_getElem_cons hl]; rfl
  have HK := Lib.hid (And.intro hcons hrl)
  clear hk hcons hr hrl
  have fin : ∀ (x : Va) (r2 : ByteArray) (w' : World), Below w.heap.size w w' → r2.size ≤ r.size → InN x → (∀ y l, rightVa y = true → InN y → y.k = k → bytes r = (keyV y).tail ++ l → x = y ∧ bytes r2 = l) →
      FirstRet s w (.returned (.tuple #[.agg #[.int .i64 x.k, .int .i64 x.n, .string x.s], .string r2])) w' := by
    intro x r2 w' hb h2 hn hy
    refine ⟨x, r2, rfl, hb, by have := HK.out.2; omega, hn, fun y l hry hny he => ?_⟩
    rw [HK.out.1] at he
    have hkk : y.k % 256 = y.k := by rcases right_cases hry with ⟨h, _⟩ | ⟨h, _⟩ | ⟨h, _⟩ | ⟨h, _⟩ <;> omega
    have e1 : keyV y = (y.k % 256) :: (keyV y).tail := rfl
    rw [e1, List.cons_append] at he
    injection he with e2 e3
    exact hy y l hry hny (by omega) e3
  have HF := Lib.hid fin
  have HB2 := Lib.hid (show ∀ c1 c2, Below w.heap.size w (((w.alloc (.cells c1 43)).alloc (.cells c2 43)).drew) from fun c1 c2 => (((Below.refl _ _).alloc (Nat.le_refl _) _).alloc (by simp) _).drew)
  clear fin
  by_cases h3 : k = 3
  · subst h3
    obtain ⟨wq, hwq, B1, B2, hbq⟩ := two_blk w #[.int .i64 0, .int .i64 0, .string ⟨#[]⟩] #[.int .i64 3, .int .i64 0, .string ⟨#[]⟩]
    have HQ := Lib.hid (And.intro hwq (And.intro B1 (And.intro B2 hbq)))
    have HMq := Lib.hid (hMs.below hbq (Nat.le_refl _))
    clear hwq B1 B2 hbq
    go_enter Tryd.func38, Tryd.ntmps38
    go_wp2_with fail
    go_region
    go_wp2_with fail
    rw [← HQ.out.1]
    refine (cut_any r _ HMq.out (by have := HK.out.2; omega)).mono ?_
    rintro e w2 ⟨⟨bd, r2, f, rfl, hbd, hr2, hy⟩, hb2⟩
    have HY := Lib.hid (And.intro hbd (And.intro hr2 hy))
    have HM2 := Lib.hid (HMq.out.below hb2 (Nat.le_refl _))
    have HB2' := Lib.hid (And.intro (HQ.out.2.1.below hb2 HQ.out.2.1.lt) (And.intro (HQ.out.2.2.1.below hb2 HQ.out.2.2.1.lt) (HQ.out.2.2.2.trans (hb2.mono HQ.out.2.2.2.size))))
    clear hbd hr2 hy hb2
    go_wp2_with fail
    refine (replaceBack_any bd _ HM2.out (by have := HY.out.1; have := HK.out.2; omega)).mono ?_
    rintro e w3 ⟨⟨tx, rfl, htl, ht⟩, hb3⟩
    have HT := Lib.hid (And.intro htl ht)
    have HB3 := Lib.hid (And.intro (HB2'.out.1.below hb3 HB2'.out.1.lt) (And.intro (HB2'.out.2.1.below hb3 HB2'.out.2.1.lt) (HB2'.out.2.2.trans (hb3.mono HB2'.out.2.2.size))))
    clear htl ht hb3
    go_wp2_with (first | (go_at_call 47; go_in) | fail)
    refine (clone_any tx _ (by have := HT.out.1; omega)).mono ?_
    rintro e w4 ⟨rfl, hb4⟩
    have B1 := HB3.out.1.below hb4 HB3.out.1.lt
    have B2 := HB3.out.2.1.below hb4 HB3.out.2.1.lt
    have HB4 := Lib.hid (And.intro (HB3.out.2.2.trans (hb4.mono HB3.out.2.2.size)) (And.intro B1 B2))
    obtain ⟨c0, c1, c2, c3, c4, c5⟩ := B1.c3
    obtain ⟨d0, d1, d2, d3, d4, d5⟩ := B2.c3
    clear hb4 B1 B2
    go_wp2_with fail
    refine bodyPost_ret (by rw [results_cell_tmp rfl]; go_simp; exact rfl) rfl ?_
    have hb9 := (((HB4.out.1.setCell (p := ⟨w.heap.size + 1, 2, none⟩) (Nat.le_succ _) (.string tx)).setCell (p := ⟨w.heap.size, 0, none⟩) (Nat.le_refl _) (.int .i64 3)).setCell (p := ⟨w.heap.size, 1, none⟩) (Nat.le_refl _) (.int .i64 0)).setCell (p := ⟨w.heap.size, 2, none⟩) (Nat.le_refl _) (.string tx)
    exact HF.out ⟨3, 0, tx⟩ r2 _ hb9 HY.out.2.1 (by unfold InN; simp only; omega) (fun y l hry hny hyk he => by
      rcases right_cases hry with ⟨h, _⟩ | ⟨h, _⟩ | ⟨h, _⟩ | ⟨h, hn, _⟩
      · omega
      · omega
      · omega
      · obtain ⟨yk, yn, ys⟩ := y
        simp only at h hn hyk
        subst h hn
        have h9 := HY.out.2.2 ys l (by simpa [keyV] using he)
        exact ⟨by rw [HT.out.2 ys h9.1], h9.2⟩)
  by_cases h1 : k = 1
  · subst h1
    obtain ⟨m, hm⟩ : ∃ m, m = min 8 r.size := ⟨_, rfl⟩
    obtain ⟨t1, ht1, et1⟩ : ∃ t1 : ByteArray, bytes t1 = (bytes r).take m ∧ t1 = r.extract 0 m := ⟨_, by rw [bytes_extract]; rfl, rfl⟩
    obtain ⟨r2, hr2, er2⟩ : ∃ r2 : ByteArray, bytes r2 = (bytes r).drop m ∧ r2 = r.extract m r.size := ⟨_, by rw [bytes_extract, List.take_of_length_le (by rw [bytes_len]; exact Nat.le_refl _)], rfl⟩
    have htl : t1.size = m := by
      have h := congrArg List.length ht1
      rw [List.length_take, bytes_len, bytes_len] at h
      omega
    have hrl : r2.size ≤ r.size := by
      have h := congrArg List.length hr2
      rw [List.length_drop, bytes_len, bytes_len] at h
      omega
    have hmin : (if (8 : Int) ≤ (r.size : Int) then (8 : Int) else (r.size : Int)) = (m : Int) := by split <;> omega
    have hfin : ∀ y l, rightVa y = true → InN y → y.k = 1 → bytes r = (keyV y).tail ++ l → (⟨1, wrap64 ((valB 0 (bytes t1) : Int) - 9223372036854775808), ⟨#[]⟩⟩ : Va) = y ∧ bytes r2 = l := by
      intro y l hry hny hyk he
      rcases right_cases hry with ⟨h, _⟩ | ⟨h, hs⟩ | ⟨h, _⟩ | ⟨h, _⟩
      · omega
      · obtain ⟨yk, yn, ys⟩ := y
        simp only at h hs hyk
        subst h hs
        have e1 : (keyV ⟨1, yn, ⟨#[]⟩⟩).tail = be 8 (u64 yn) := by simp [keyV]
        rw [e1] at he
        have hlen := congrArg List.length he
        rw [bytes_len, List.length_append, be_len] at hlen
        obtain rfl : m = 8 := by omega
        rw [he, List.take_left' (be_len 8 _)] at ht1
        rw [he, List.drop_left' (be_len 8 _)] at hr2
        have hu := u64_lt yn
        have hv : valB 0 (bytes t1) = u64 yn := by
          rw [ht1, valB_be, Nat.zero_mul, Nat.zero_add]
          exact Nat.mod_eq_of_lt (Nat.lt_of_lt_of_le hu (by decide))
        refine ⟨?_, hr2⟩
        rw [hv, u64_in hny]
        have : wrap64 (yn + 9223372036854775808 - 9223372036854775808) = yn := by
          have h1 := hny.1
          have h2 := hny.2
          simp only at h1 h2
          unfold wrap64
          omega
        rw [this]
      · omega
      · omega
    obtain ⟨v, hv⟩ : ∃ v, v = wrap64 ((valB 0 (bytes t1) : Int) - 9223372036854775808) := ⟨_, rfl⟩
    have hvb := wrap64_in64 ((valB 0 (bytes t1) : Int) - 9223372036854775808)
    rw [← hv] at hvb hfin
    have HN := Lib.hid (fun w => (number_any' t1 w (by omega)))
    rw [← hv] at HN
    have HE := Lib.hid (And.intro hfin (And.intro hrl hvb))
    obtain ⟨wq, hwq, B1, B2, hbq⟩ := two_blk w #[.int .i64 0, .int .i64 0, .string ⟨#[]⟩] #[.int .i64 1, .int .i64 0, .string ⟨#[]⟩]
    have HQ := Lib.hid (And.intro hwq (And.intro B1 (And.intro B2 hbq)))
    clear hwq hbq hv hvb hfin ht1 hr2 htl hrl B1 B2
    by_cases h8 : (8 : Int) ≤ (r.size : Int)
    · obtain rfl : m = 8 := by omega
      have hmx : min (8 : Int) (r.size : Int) = 8 := by omega
      subst et1
      subst er2
      clear hm hmin
      go_enter Tryd.func38, Tryd.ntmps38
      go_wp2_with fail
      go_region
      go_wp2_with fail
      rw [← HQ.out.1]
      go_region_with (go_at_call 45; refine (HN.out _).mono ?_; rintro e w5 ⟨rfl, hb5⟩; have B1 := (show Blk wq.drew _ _ _ from HQ.out.2.1.drew).below hb5 (show _ < _ from HQ.out.2.1.lt); have B2 := (show Blk wq.drew _ _ _ from HQ.out.2.2.1.drew).below hb5 (show _ < _ from HQ.out.2.2.1.lt); have HB5 := Lib.hid (HQ.out.2.2.2.drew.trans (hb5.mono HQ.out.2.2.2.size)); obtain ⟨c0, c1, c2, c3, c4, c5⟩ := B1.c3; obtain ⟨d0, d1, d2, d3, d4, d5⟩ := B2.c3; clear B1 B2 hb5)
      go_wp2_with fail
      refine bodyPost_ret (by rw [results_cell_tmp rfl]; go_simp; exact rfl) rfl ?_
      have hb9 := (((HB5.out.setCell (p := ⟨w.heap.size + 1, 1, none⟩) (Nat.le_succ _) (.int .i64 v)).setCell (p := ⟨w.heap.size, 0, none⟩) (Nat.le_refl _) (.int .i64 1)).setCell (p := ⟨w.heap.size, 1, none⟩) (Nat.le_refl _) (.int .i64 v)).setCell (p := ⟨w.heap.size, 2, none⟩) (Nat.le_refl _) (.string ⟨#[]⟩)
      exact HF.out ⟨1, v, ⟨#[]⟩⟩ _ _ hb9 HE.out.2.1 HE.out.2.2 HE.out.1
    · obtain rfl : m = r.size := by omega
      have hmx : min (8 : Int) (r.size : Int) = (r.size : Int) := by omega
      obtain rfl : t1 = r := by rw [et1]; simp
      obtain rfl : r2 = ByteArray.empty := by rw [er2]; simp
      clear et1 er2
      clear hm hmin
      go_enter Tryd.func38, Tryd.ntmps38
      go_wp2_with fail
      go_region
      go_wp2_with fail
      rw [← HQ.out.1]
      go_region_with (go_at_call 45; refine (HN.out _).mono ?_; rintro e w5 ⟨rfl, hb5⟩; have B1 := (show Blk wq.drew _ _ _ from HQ.out.2.1.drew).below hb5 (show _ < _ from HQ.out.2.1.lt); have B2 := (show Blk wq.drew _ _ _ from HQ.out.2.2.1.drew).below hb5 (show _ < _ from HQ.out.2.2.1.lt); have HB5 := Lib.hid (HQ.out.2.2.2.drew.trans (hb5.mono HQ.out.2.2.2.size)); obtain ⟨c0, c1, c2, c3, c4, c5⟩ := B1.c3; obtain ⟨d0, d1, d2, d3, d4, d5⟩ := B2.c3; clear B1 B2 hb5)
      go_wp2_with fail
      refine bodyPost_ret (by rw [results_cell_tmp rfl]; go_simp; exact rfl) rfl ?_
      have hb9 := (((HB5.out.setCell (p := ⟨w.heap.size + 1, 1, none⟩) (Nat.le_succ _) (.int .i64 v)).setCell (p := ⟨w.heap.size, 0, none⟩) (Nat.le_refl _) (.int .i64 1)).setCell (p := ⟨w.heap.size, 1, none⟩) (Nat.le_refl _) (.int .i64 v)).setCell (p := ⟨w.heap.size, 2, none⟩) (Nat.le_refl _) (.string ⟨#[]⟩)
      exact HF.out ⟨1, v, ⟨#[]⟩⟩ _ _ hb9 HE.out.2.1 HE.out.2.2 HE.out.1
  by_cases h2 : k = 2
  · subst h2
    by_cases hz : r.size = 0
    · have hne : (r.toList == []) = true := by
        have := str_eq r ⟨#[]⟩
        rw [show (⟨#[]⟩ : ByteArray).toList = [] by rw [ByteArray.toList_eq]] at this
        rw [this, decide_eq_true]
        exact bytes_inj (List.eq_nil_of_length_eq_zero (by rw [bytes_len]; exact hz))
      have hne2 : (r.toList != []) = false := by simp [bne, hne]
      go_enter Tryd.func38, Tryd.ntmps38
      go_wp2_with fail
      go_region
      go_wp2_with fail
      refine bodyPost_ret (by rw [results_cell_tmp rfl]; go_simp; exact rfl) rfl ?_
      exact HF.out ⟨2, 0, ⟨#[]⟩⟩ r _ (HB2.out _ _) (Nat.le_refl _) (by unfold InN; simp only; omega) (fun y l hry hny hyk he => by
        exfalso
        have h := congrArg List.length he
        unfold keyV at h
        rw [hyk] at h
        simp [bytes_len, hz] at h)
    · have hne : (r.toList == []) = false := by
        have := str_eq r ⟨#[]⟩
        rw [show (⟨#[]⟩ : ByteArray).toList = [] by rw [ByteArray.toList_eq]] at this
        rw [this, decide_eq_false]
        intro e
        subst e
        exact hz rfl
      have hne2 : (r.toList != []) = true := by simp [bne, hne]
      have hl2 : 0 < (bytes r).length := by rw [bytes_len]; omega
      obtain ⟨k2, hk2⟩ : ∃ k2, k2 = (bytes r)[0] := ⟨_, rfl⟩
      have hkb2 := bytes_is r k2 (by rw [hk2]; exact List.getElem_mem _)
      have hix2 := str_index r 0 0 rfl hl2
      rw [← hk2] at hix2
      obtain ⟨r2, hr2, hrun2'⟩ := slice_from r 1 (by omega)
      have hrun2 := fun w => hrun2' w 1 rfl
      have hcons2 : bytes r = k2 :: bytes r2 := by rw [hr2, hk2, ← List.drop_eq_getElem_cons hl2]; rfl
      have hl3 : r2.size ≤ r.size := by
        have h := congrArg List.length hr2
        rw [List.length_drop, bytes_len, bytes_len] at h
        omega
      have HK2 := Lib.hid (And.intro hcons2 hl3)
      clear hrun2' hcons2 hl3 hk2 hr2 hl2
      go_enter Tryd.func38, Tryd.ntmps38
      go_wp2_with fail
      go_region
      go_wp2_with fail
      go_region
      go_wp2_with fail
      refine bodyPost_ret (by rw [results_cell_tmp rfl]; go_simp; exact rfl) rfl ?_
      exact HF.out ⟨2, k2, ⟨#[]⟩⟩ r2 _ (((((Below.refl _ _).alloc (Nat.le_refl _) _).alloc (by simp) _).drew).drew) HK2.out.2 (by unfold InN; simp only; omega) (fun y l hry hny hyk he => by
        rw [HK2.out.1] at he
        rcases right_cases hry with ⟨h, _⟩ | ⟨h, _⟩ | ⟨h, hn, hs⟩ | ⟨h, _⟩
        · omega
        · omega
        · obtain ⟨yk, yn, ys⟩ := y
          simp only at h hn hs hyk
          subst h hs
          have hm : yn % 256 = yn := by omega
          simp [keyV, hm] at he
          exact ⟨by rw [he.1], he.2⟩
        · omega)
  · go_enter Tryd.func38, Tryd.ntmps38
    go_wp2_with fail
    go_region
    go_wp2_with fail
    refine bodyPost_ret (by rw [results_cell_tmp rfl]; go_simp; exact rfl) rfl ?_
    exact HF.out ⟨k, 0, ⟨#[]⟩⟩ r _ (HB2.out _ _) (Nat.le_refl _) (by unfold InN; simp only; omega) (fun y l hry hny hyk he => by
      rcases right_cases hry with ⟨h, hn, hs⟩ | ⟨h, _⟩ | ⟨h, _⟩ | ⟨h, _⟩
      · obtain ⟨yk, yn, ys⟩ := y
        simp only at h hn hs hyk
        subst h hn hs
        subst hyk
        exact ⟨rfl, by simpa [keyV] using he⟩
      all_goals omega)
end Go.Proofs.YtkdhmbfmjlpfbaaDoor
