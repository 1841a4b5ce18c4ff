/-
  The document's own first.
-/
import Derived.Test.YtkdhmbfmjlpfbaaDoorKM2
import Derived.Test.YtkdhmbfmjlpfbaaDoorKOne
namespace Go.Proofs.YtkdhmbfmjlpfbaaDoor
open Go.RowKit Go.Lib

theorem results_ctt {fn : Func} {p u v : Tmp} {ty : TypeId} (h : fn.results = #[.cell p ty, .tmp u, .tmp v]) (tmps : Array Value) (P : Program) (w : World) :
    (results fn tmps).run P w = ((asAddr (tmps.getD p undef)).run P w).andThen fun a w₁ => ((loadVar ty a).run P w₁).andThen fun x w₂ => .ok (.tuple #[x, tmps.getD u undef, tmps.getD v undef]) w₂ := by
  simp only [results, h]
  simp [Sem.run_bind, Result.andThen]
theorem two_blk0 (w : World) (c1 c2 : Array Value) : ∃ wq, wq = (w.alloc (.cells c1 43)).alloc (.cells c2 43) ∧ Blk wq w.heap.size 43 c1 ∧ Blk wq (w.heap.size + 1) 43 c2 ∧ Below w.heap.size w wq ∧ wq.heap.size = w.heap.size + 2 := by
  refine ⟨_, rfl, (Blk.new w _ c1).alloc _, ?_, ((Below.refl _ _).alloc (Nat.le_refl _) _).alloc (by simp) _, by simp⟩
  have h := Blk.new (w.alloc (.cells c1 43)) 43 c2
  simpa using h

theorem valB_acc (l : List Int) (acc : Nat) : valB acc l = acc * 256 ^ l.length + valB 0 l := by
  induction l generalizing acc with
  | nil => simp [valB]
  | cons x l ih =>
    have e : ∀ a, valB a (x :: l) = valB (a * 256 + x.toNat) l := fun a => by simp [valB]
    rw [e, e, ih, ih (0 * 256 + x.toNat), List.length_cons, Nat.pow_succ, Nat.zero_mul, Nat.zero_add, Nat.add_mul, Nat.mul_assoc, Nat.mul_comm 256]
    omega
theorem be_mod {k u v : Nat} (h : u % 256 ^ k = v % 256 ^ k) : be k u = be k v := by
  have h1 := be_cmp k u v
  rw [h, cmpI_self] at h1
  exact ((good_lexL good_cmpI).zero _ _).1 h1
theorem be_valB (l : List Int) (h : IsBytes l) : be l.length (valB 0 l) = l := by
  induction l with
  | nil => rfl
  | cons x l ih =>
    have hx := h x (by simp)
    have hl : IsBytes l := fun y hy => h y (by simp [hy])
    have e : valB 0 (x :: l) = x.toNat * 256 ^ l.length + valB 0 l := by
      have : valB 0 (x :: l) = valB (0 * 256 + x.toNat) l := by simp [valB]
      rw [this, valB_acc, Nat.zero_mul, Nat.zero_add]
    have hlt := valB_lt l 0 hl
    rw [Nat.zero_add, Nat.one_mul] at hlt
    have hp : 0 < 256 ^ l.length := Nat.pow_pos (by omega)
    rw [List.length_cons, be, e]
    congr 1
    · rw [Nat.mul_comm, Nat.mul_add_div hp, Nat.div_eq_of_lt hlt, Nat.add_zero, Nat.mod_eq_of_lt (by omega)]
      omega
    · rw [be_mod (v := valB 0 l) (by rw [Nat.mul_comm, Nat.mul_add_mod]), ih hl]
theorem u64_back {a : Nat} (h : a < 18446744073709551616) : u64 (wrap64 ((a : Int) - 9223372036854775808)) = a := by
  unfold u64 wrap64
  omega
theorem wrap_u64_64 (a : Nat) : wrap64 (IntKind.u64.wrap ((a : Int) - 9223372036854775808)) = wrap64 ((a : Int) - 9223372036854775808) := by
  rw [IntKind.wrap_u64]
  unfold wrap64
  omega

/-- what the document's first hands back: the value that is told there, and what is behind it; or that there is none -/
def RFRet (s : ByteArray) (w : World) (e : Ending) (w' : World) : Prop :=
  Below w.heap.size w w' ∧ ∃ (x : Va) (r : ByteArray), (e = .returned (.tuple #[.agg #[.int .i64 x.k, .int .i64 x.n, .string x.s], .string r, .bool true]) ∧ Shp x ∧ bytes s = keyV x ++ bytes r) ∨
    (e = .returned (.tuple #[.agg #[.int .i64 x.k, .int .i64 x.n, .string x.s], .string r, .bool false]) ∧ ∀ y l, Shp y → bytes s ≠ keyV y ++ l)

theorem no_esc {r : List Int} (h : unesc r = none) : ∀ y l, Shp y → y.k = 3 → r ≠ (keyV y).tail ++ l := by
  rintro y l _ hyk rfl
  have e : (keyV y).tail = escB (bytes y.s) ++ [0, 1] := by unfold keyV; rw [hyk]; simp
  rw [e, List.append_assoc] at h
  have h2 := unesc_esc (bytes y.s) l
  rw [show escB (bytes y.s) ++ 0 :: 1 :: l = escB (bytes y.s) ++ ([0, 1] ++ l) from rfl, h] at h2
  cases h2
theorem drop_two {l : List Int} {j : Nat} (h : j + 1 < l.length) : l.drop j = l[j] :: l[j + 1] :: l.drop (j + 2) := by
  rw [List.drop_eq_getElem_cons (by omega), List.drop_eq_getElem_cons h]

def RNum (l : List Int) (u i : Value) : Prop := ∃ j : Nat, j ≤ 8 ∧ i = .int .i64 j ∧ u = .int .u64 ((valB 0 (l.take j) : Nat) : Int)
def RTxt (l : List Int) (w : World) (v i : Value) (wr : World) : Prop :=
  ∃ (j : Nat) (td : List Int), j ≤ l.length ∧ i = .int .i64 j ∧ td.length ≤ j ∧ IsBytes td ∧ wr.ownsRow (w.heap.size + 2) 5 1 v td.length (cells td) ∧ unesc l = ((unesc (l.drop j)).map fun p => (td ++ p.1, p.2)) ∧
    Blk wr w.heap.size 43 #[.int .i64 0, .int .i64 0, .string ⟨#[]⟩] ∧ Blk wr (w.heap.size + 1) 43 #[.int .i64 3, .int .i64 0, .string ⟨#[]⟩] ∧ Below w.heap.size w wr

set_option maxRecDepth 100000 in
set_option maxHeartbeats 6400000 in
theorem refFirst_any (s : ByteArray) (w : World) (h0 : 0 < s.size) (hs : s.size ≤ 1000000) : Calls Tryd.prog 29 #[.string s] w (RFRet s w) := by
  obtain ⟨i0, hi, hz0, hz1, hz2⟩ := info_parts Tryd.info5
  have hl : 0 < (bytes s).length := by rw [bytes_len]; exact h0
  obtain ⟨k, hk⟩ : ∃ k, k = (bytes s)[0] := ⟨_, rfl⟩
  have hkb := bytes_is s k (by rw [hk]; exact List.getElem_mem _)
  have hix := str_index s 0 0 rfl hl
  rw [← hk] at hix
  obtain ⟨r, hr, hrun⟩ := slice_from s 1 h0
  have hrun1 := fun w => hrun w 1 rfl
  clear hrun
  have hrl : r.size + 1 = s.size := by
    have h := congrArg List.length hr
    rw [List.length_drop, bytes_len, bytes_len] at h
    omega
  have hcons : bytes s = k :: bytes r := by rw [hr, hk, ← List.drop_eq_getElem_cons hl]; rfl
  have HK := Lib.hid (And.intro hcons hrl)
  clear hk hcons hr hrl
  have finT : ∀ (x : Va) (r2 : ByteArray) (w' : World), Below w.heap.size w w' → Shp x → x.k = k → bytes r = (keyV x).tail ++ bytes r2 →
      RFRet s w (.returned (.tuple #[.agg #[.int .i64 x.k, .int .i64 x.n, .string x.s], .string r2, .bool true])) w' := by
    intro x r2 w' hb hx hxk he
    refine ⟨hb, x, r2, .inl ⟨rfl, hx, ?_⟩⟩
    have h1 := shp_k hx
    have e1 : keyV x = (x.k % 256) :: (keyV x).tail := rfl
    rw [HK.out.1, he, e1, List.cons_append, show x.k % 256 = k by omega]
    rfl
  have finF : ∀ (x : Va) (r2 : ByteArray) (w' : World), Below w.heap.size w w' → (∀ y l, Shp y → y.k = k → bytes r ≠ (keyV y).tail ++ l) →
      RFRet s w (.returned (.tuple #[.agg #[.int .i64 x.k, .int .i64 x.n, .string x.s], .string r2, .bool false])) w' := by
    intro x r2 w' hb hy
    refine ⟨hb, x, r2, .inr ⟨rfl, fun y l hys he => ?_⟩⟩
    have h1 := shp_k hys
    have e1 : keyV y = (y.k % 256) :: (keyV y).tail := rfl
    rw [HK.out.1, e1, List.cons_append] at he
    injection he with e2 e3
    exact hy y l hys (by omega) e3
  have HT := Lib.hid finT
  have HF := Lib.hid finF
  clear finT finF
  obtain ⟨wq, hwq, B1, B2, hbq, hszq⟩ := two_blk0 w #[.int .i64 0, .int .i64 0, .string ⟨#[]⟩] #[.int .i64 k, .int .i64 0, .string ⟨#[]⟩]
  have HQ := Lib.hid (And.intro hwq (And.intro B1 (And.intro B2 (And.intro hbq hszq))))
  clear hwq B1 B2 hbq hszq
  have HB9 := Lib.hid (show ∀ wz : World, Below w.heap.size w wz → ∀ a b c : Value, Below w.heap.size w (((wz.setCell ⟨w.heap.size, 0, none⟩ a).setCell ⟨w.heap.size, 1, none⟩ b).setCell ⟨w.heap.size, 2, none⟩ c) from
    fun wz hz a b c => ((hz.setCell (p := ⟨w.heap.size, 0, none⟩) (Nat.le_refl _) a).setCell (p := ⟨w.heap.size, 1, none⟩) (Nat.le_refl _) b).setCell (p := ⟨w.heap.size, 2, none⟩) (Nat.le_refl _) c)
  by_cases h1 : k = 1
  · subst h1
    by_cases h8 : r.size < 8
    · have h8i : (r.size : Int) < 8 := by omega
      have HN := Lib.hid (show ∀ y l, Shp y → y.k = 1 → bytes r ≠ (keyV y).tail ++ l from fun y l _ hyk he => by
        have h := congrArg List.length he
        unfold keyV at h
        rw [hyk] at h
        simp [bytes_len, be_len] at h
        omega)
      go_enter Tryd.func29, Tryd.ntmps29
      go_wp2_with fail
      refine bodyPost_ret (by rw [results_ctt rfl]; go_simp; exact rfl) rfl ?_
      exact HF.out ⟨1, 0, ⟨#[]⟩⟩ r _ (((Below.refl _ _).alloc (Nat.le_refl _) _).alloc (by simp) _) HN.out
    · have h8i : ¬ (r.size : Int) < 8 := by omega
      go_enter Tryd.func29, Tryd.ntmps29
      go_wp2_with fail
      rw [← HQ.out.1]
      go_loop [6, 7] (fun u i => RNum (bytes r) u i) (fun _ i => 8 - (Lib.intOf i).toNat)
      case atStart => exact ⟨0, by omega, rfl, by simp [valB]⟩
      case round =>
        obtain ⟨j, hj, rfl, rfl⟩ := hrel
        have hj0 : (0 : Int) ≤ (j : Int) := Int.natCast_nonneg _
        by_cases hlt : j < 8
        · have hlt1 : (j : Int) < 8 := by omega
          have hjl : j < (bytes r).length := by rw [bytes_len]; omega
          have hixj := str_index r j j rfl hjl
          have hnext : valB 0 ((bytes r).take (j + 1)) = valB 0 ((bytes r).take j) * 256 + ((bytes r)[j]).toNat := by
            rw [List.take_succ_eq_append_getElem hjl, valB_snoc]
          obtain ⟨x, hx⟩ : ∃ x, x = (bytes r)[j] := ⟨_, rfl⟩
          rw [← hx] at hixj hnext
          have hxb := bytes_is r x (by rw [hx]; exact List.getElem_mem _)
          have hbd := valB_lt ((bytes r).take j) 0 ((bytes_is r).take j)
          rw [List.length_take, Nat.min_eq_left (by omega), Nat.zero_add, Nat.one_mul] at hbd
          obtain ⟨a, ha⟩ : ∃ a, a = valB 0 ((bytes r).take j) := ⟨_, rfl⟩
          rw [← ha] at hnext hbd ⊢
          have h56 : a < 72057594037927936 := Nat.lt_of_lt_of_le hbd (Nat.le_trans (Nat.pow_le_pow_right (by omega) (show j ≤ 7 by omega)) (by decide))
          have hw1 : IntKind.u64.wrap ((a : Int) * 256) = (a : Int) * 256 := by rw [IntKind.wrap_u64]; omega
          have hw2 : IntKind.u64.wrap x = x := by rw [IntKind.wrap_u64]; omega
          have hw3 : IntKind.u64.wrap ((a : Int) * 256 + x) = (a : Int) * 256 + x := by rw [IntKind.wrap_u64]; omega
          have HN := Lib.hid (show RNum (bytes r) (.int .u64 ((a : Int) * 256 + x)) (.int .i64 ((j : Int) + 1)) from ⟨j + 1, by omega, by go_num, by congr 1; rw [hnext]; omega⟩)
          clear hx ha hnext hbd hjl
          go_wp2
          exact ⟨HN.out, by simp [Lib.intOf]; omega⟩
        · have hlt1 : ¬ (j : Int) < 8 := by omega
          obtain rfl : j = 8 := by omega
          obtain ⟨a, ha⟩ : ∃ a, a = valB 0 ((bytes r).take 8) := ⟨_, rfl⟩
          have hl8 : ((bytes r).take 8).length = 8 := by rw [List.length_take, bytes_len]; omega
          have hbd := valB_lt ((bytes r).take 8) 0 ((bytes_is r).take 8)
          rw [hl8, Nat.zero_add, Nat.one_mul] at hbd
          have hbe := be_valB ((bytes r).take 8) ((bytes_is r).take 8)
          rw [hl8] at hbe
          rw [← ha] at hbe hbd ⊢
          have h64 : a < 18446744073709551616 := Nat.lt_of_lt_of_le hbd (by decide)
          obtain ⟨v, hv⟩ : ∃ v, v = wrap64 ((a : Int) - 9223372036854775808) := ⟨_, rfl⟩
          have hvu : u64 v = a := by rw [hv]; exact u64_back h64
          have hvb : InN ⟨1, v, ⟨#[]⟩⟩ := by rw [hv]; exact wrap64_in64 _
          have hwv : wrap64 (IntKind.u64.wrap ((a : Int) - 9223372036854775808)) = v := by rw [hv]; exact wrap_u64_64 a
          have HN := Lib.hid (show bytes r = (keyV ⟨1, v, ⟨#[]⟩⟩).tail ++ bytes (r.extract 8 r.size) by
            have e1 : (keyV ⟨1, v, ⟨#[]⟩⟩).tail = be 8 (u64 v) := by simp [keyV]
            have e3 : bytes (r.extract 8 r.size) = (bytes r).drop 8 := by rw [bytes_extract, List.take_of_length_le (by rw [bytes_len]; exact Nat.le_refl _)]
            rw [e1, hvu, hbe, e3, List.take_append_drop])
          have HVB := Lib.hid hvb
          obtain ⟨c0, c1, c2, c3, c4, c5⟩ := HQ.out.2.1.c3
          obtain ⟨d0, d1, d2, d3, d4, d5⟩ := HQ.out.2.2.1.c3
          clear ha hbd hbe hl8 h64 hv hvu hvb
          go_wp2_with fail
          go_region
          go_wp2_with fail
          refine bodyPost_ret (by rw [results_ctt rfl]; go_simp; exact rfl) rfl ?_
          exact HT.out ⟨1, v, ⟨#[]⟩⟩ (r.extract 8 r.size) _ (HB9.out _ (HQ.out.2.2.2.1.setCell (p := ⟨w.heap.size + 1, 1, none⟩) (Nat.le_succ _) _) _ _ _).drew (.inr (.inl ⟨rfl, HVB.out, rfl⟩)) rfl HN.out
  by_cases h2 : k = 2
  · subst h2
    by_cases hz : r.size < 1
    · have hzi : (r.size : Int) < 1 := by omega
      have HN := Lib.hid (show ∀ y l, Shp y → y.k = 2 → bytes r ≠ (keyV y).tail ++ l from fun y l _ hyk he => by
        have h := congrArg List.length he
        unfold keyV at h
        rw [hyk] at h
        simp [bytes_len] at h
        omega)
      go_enter Tryd.func29, Tryd.ntmps29
      go_wp2_with fail
      refine bodyPost_ret (by rw [results_ctt rfl]; go_simp; exact rfl) rfl ?_
      exact HF.out ⟨2, 0, ⟨#[]⟩⟩ r _ (((Below.refl _ _).alloc (Nat.le_refl _) _).alloc (by simp) _) HN.out
    · have hzi : ¬ (r.size : Int) < 1 := by omega
      have hl2 : 0 < (bytes r).length := by rw [bytes_len]; omega
      obtain ⟨k2, hk2⟩ : ∃ k2, k2 = (bytes r)[0] := ⟨_, rfl⟩
      have hkb2 := bytes_is r k2 (by rw [hk2]; exact List.getElem_mem _)
      have hix2 := str_index r 0 0 rfl hl2
      rw [← hk2] at hix2
      obtain ⟨r2, hr2, hrun2'⟩ := slice_from r 1 (by omega)
      have hrun2 := fun w => hrun2' w 1 rfl
      have HN := Lib.hid (show bytes r = (keyV ⟨2, k2, ⟨#[]⟩⟩).tail ++ bytes r2 by
        have e1 : (keyV ⟨2, k2, ⟨#[]⟩⟩).tail = [k2 % 256] := by simp [keyV]
        rw [e1, show k2 % 256 = k2 by omega, hr2, hk2]
        exact List.drop_eq_getElem_cons hl2)
      clear hrun2' hk2 hr2 hl2
      go_enter Tryd.func29, Tryd.ntmps29
      go_wp2_with fail
      go_region
      go_wp2_with fail
      refine bodyPost_ret (by rw [results_ctt rfl]; go_simp; exact rfl) rfl ?_
      exact HT.out ⟨2, k2, ⟨#[]⟩⟩ r2 _ ((((Below.refl _ _).alloc (Nat.le_refl _) _).alloc (by simp) _).drew) (.inr (.inr (.inl ⟨rfl, hkb2, rfl⟩))) rfl HN.out
  by_cases h3 : k = 3
  · subst h3
    have hrs : r.size ≤ 1000000 := by have := HK.out.2; omega
    have HO2 := Lib.hid (show (wq.alloc (.cells #[] 5)).ownsRow (w.heap.size + 2) 5 1 (.slice (some ⟨w.heap.size + 2, 0, none⟩) 0 0) 0 (cells []) by
      have h := World.ownsRow_lit (base := wq.heap.size) (e := 5) (size := 1) wq #[] 0 (Nat.le_refl _) (by simp [maxLen]) (by simp)
      rw [HQ.out.2.2.2.2] at h
      exact h)
    go_enter Tryd.func29, Tryd.ntmps29
    go_wp2_with fail
    rw [← HQ.out.1]
    go_loopw [8, 9] (fun v i wr => RTxt (bytes r) w v i wr) (fun _ i _ => r.size - (Lib.intOf i).toNat)
    case atStart => exact ⟨0, [], by omega, rfl, by simp, .nil, HO2.out, by simp, HQ.out.2.1.alloc _, HQ.out.2.2.1.alloc _, HQ.out.2.2.2.1.alloc HQ.out.2.2.2.1.size _⟩
    case round =>
      obtain ⟨j, td, hj, rfl, htd, htb, hown, hun, B1, B2, hb⟩ := hrel
      rw [bytes_len] at hj
      obtain ⟨A2, c2', rfl, _, _⟩ := own_shape hown
      have HR := Lib.hid (And.intro hown (And.intro hun (And.intro B1 (And.intro B2 (And.intro hb htb)))))
      obtain ⟨c0, c1, c2, c3, c4, c5⟩ := B1.c3
      obtain ⟨d0, d1, d2, d3, d4, d5⟩ := B2.c3
      have hszr : w.heap.size + 2 ≤ wr.heap.size := by have := B2.lt; omega
      have hj0 : (0 : Int) ≤ (j : Int) := Int.natCast_nonneg _
      clear hown hun B1 B2 hb htb
      by_cases hlt : j < r.size
      · have hlt1 : (j : Int) < (r.size : Int) := by omega
        have hjl : j < (bytes r).length := by rw [bytes_len]; exact hlt
        have hixj := str_index r j j rfl hjl
        obtain ⟨x, hx⟩ : ∃ x, x = (bytes r)[j] := ⟨_, rfl⟩
        rw [← hx] at hixj
        have hxb := bytes_is r x (by rw [hx]; exact List.getElem_mem _)
        have HX := Lib.hid hx
        clear hx
        by_cases hx0 : x = 0
        · subst hx0
          have hw1 : IntKind.i64.wrap ((j : Int) + 1) = (j : Int) + 1 := IntWalk.i64_in _ (by omega)
          by_cases hend : r.size ≤ j + 1
          · have hendi : (r.size : Int) ≤ (j : Int) + 1 := by omega
            have HN := Lib.hid (no_esc (r := bytes r) (by
              have e : (bytes r).drop j = [0] := by
                rw [List.drop_eq_getElem_cons hjl, ← HX.out, List.drop_eq_nil_of_le (by rw [bytes_len]; omega)]
              rw [HR.out.2.1, e]; rfl))
            go_wp2_with fail
            refine bodyPost_ret (by rw [results_ctt rfl]; go_simp; exact rfl) rfl ?_
            exact HF.out ⟨3, 0, ⟨#[]⟩⟩ r _ (HB9.out _ HR.out.2.2.2.2.1 _ _ _) HN.out
          · have hendi : ¬ (r.size : Int) ≤ (j : Int) + 1 := by omega
            have hjl2 : j + 1 < (bytes r).length := by rw [bytes_len]; omega
            have hixk := str_index r (j + 1) ((j : Int) + 1) (by omega) hjl2
            have hd2 := drop_two hjl2
            rw [← HX.out] at hd2
            obtain ⟨y, hy⟩ : ∃ y, y = (bytes r)[j + 1] := ⟨_, rfl⟩
            rw [← hy] at hixk hd2
            have hyb := bytes_is r y (by rw [hy]; exact List.getElem_mem _)
            have HD := Lib.hid hd2
            clear hy hd2 hjl2
            by_cases hy1 : y = 1
            · subst hy1
              obtain ⟨r2, hr2, hrun2'⟩ := slice_from r (j + 2) (by omega)
              have hrun2 := fun w => hrun2' w ((j : Int) + 2) (by omega)
              have hw2 : IntKind.i64.wrap ((j : Int) + 2) = (j : Int) + 2 := IntWalk.i64_in _ (by omega)
              have hst := run_strw (P := Tryd.prog) wr 44 9 5 A2 _ c2' _ td Tryd.underlying44 Tryd.underlying5 Tryd.underlying9 (Rd.of_own HR.out.1)
              have HN := Lib.hid (show bytes r = (keyV ⟨3, 0, mkStr td⟩).tail ++ bytes r2 by
                have e1 : (keyV ⟨3, 0, mkStr td⟩).tail = escB td ++ [0, 1] := by simp [keyV, bytes_mkStr td HR.out.2.2.2.2.2]
                have e2 : unesc (bytes r) = some (td, bytes r2) := by
                  rw [HR.out.2.1, HD.out, hr2]
                  simp [unesc]
                rw [e1, List.append_assoc]
                exact unesc_inv _ _ _ e2)
              clear hr2 hrun2'
              go_wp2_with fail
              go_region
              go_wp2_with fail
              refine bodyPost_ret (by rw [results_ctt rfl]; go_simp; exact rfl) rfl ?_
              exact HT.out ⟨3, 0, mkStr td⟩ r2 _ (HB9.out _ (HR.out.2.2.2.2.1.setCell (p := ⟨w.heap.size + 1, 2, none⟩) (Nat.le_succ _) _) _ _ _).drew (.inr (.inr (.inr ⟨rfl, rfl⟩))) rfl HN.out
            · have hy1b : (y == 1) = false := by simp [hy1]
              by_cases hy255 : y = 255
              · subst hy255
                go_wp2_with (at_builtin; refine wpList_append_rd _ rfl (.tmp 107) (.tmp 108) 44 rfl (w.heap.size + 2) 5 i0 (.int .u8 0) 1 Tryd.underlying44 hi hz0 hz1 hz2 rfl _ _ _ rfl (own_add HR.out.1 _ rfl) (wr.heap.size + 1) _ 1 1 _ rfl (rd_lit1 wr 0) (cells_one _) ?c3 ?c4 ?c5 ?_)
                case c3 => unfold maxLen; omega
                case c4 => omega
                case c5 => first | omega | (simp; omega)
                intro v6 w6 hown6 hgrow
                have hb6 : Below (w.heap.size + 2) wr w6 := ((Below.refl _ wr).alloc hszr _).trans (below_own (own_add HR.out.1 _ rfl) hgrow (by simp; omega))
                have hw2 : IntKind.i64.wrap ((j : Int) + 1 + 1) = (j : Int) + 1 + 1 := IntWalk.i64_in _ (by omega)
                have HN := Lib.hid (show RTxt (bytes r) w v6 (.int .i64 ((j : Int) + 1 + 1)) w6 from ⟨j + 2, td ++ [0], by rw [bytes_len]; omega, by go_num, by simp; omega, HR.out.2.2.2.2.2.append (.cons (by omega) .nil), by
                  rw [List.length_append, cells_append]; exact hown6, by
                  rw [HR.out.2.1, HD.out, unesc, if_pos rfl, if_neg (by decide), if_pos rfl]
                  cases unesc ((bytes r).drop (j + 2)) <;> simp, HR.out.2.2.1.below hb6 (by omega), HR.out.2.2.2.1.below hb6 (by omega), HR.out.2.2.2.2.1.trans (hb6.mono (by omega))⟩)
                clear hown6 hgrow hb6 c0 c1 c2 c3 c4 c5 d0 d1 d2 d3 d4 d5
                go_wp2
                go_roundw
                case rel => exact HN.out
                case measure => simp [Lib.intOf]; omega
              · have hy255b : (y != 255) = true := by simp [hy255]
                have HN := Lib.hid (no_esc (r := bytes r) (by
                  rw [HR.out.2.1, HD.out, unesc, if_pos rfl, if_neg hy1, if_neg hy255]; rfl))
                go_wp2_with fail
                refine bodyPost_ret (by rw [results_ctt rfl]; go_simp; exact rfl) rfl ?_
                exact HF.out ⟨3, 0, ⟨#[]⟩⟩ r _ (HB9.out _ HR.out.2.2.2.2.1 _ _ _) HN.out
        · have hxne : (x != 0) = true := by simp [hx0]
          go_wp2_with (at_builtin; refine wpList_append_rd _ rfl (.tmp 74) (.tmp 78) 44 rfl (w.heap.size + 2) 5 i0 (.int .u8 0) 1 Tryd.underlying44 hi hz0 hz1 hz2 rfl _ _ _ rfl (own_add HR.out.1 _ rfl) (wr.heap.size + 1) _ 1 1 _ rfl (rd_lit1 wr x) (cells_one _) ?c3 ?c4 ?c5 ?_)
          case c3 => unfold maxLen; omega
          case c4 => omega
          case c5 => first | omega | (simp; omega)
          intro v6 w6 hown6 hgrow
          have hb6 : Below (w.heap.size + 2) wr w6 := ((Below.refl _ wr).alloc hszr _).trans (below_own (own_add HR.out.1 _ rfl) hgrow (by simp; omega))
          have HN := Lib.hid (show RTxt (bytes r) w v6 (.int .i64 ((j : Int) + 1)) w6 from ⟨j + 1, td ++ [x], by rw [bytes_len]; omega, by go_num, by simp; omega, HR.out.2.2.2.2.2.append (.cons hxb .nil), by
            rw [List.length_append, cells_append]; exact hown6, by
            rw [HR.out.2.1, List.drop_eq_getElem_cons hjl, ← HX.out, unesc_cons hx0]
            cases unesc ((bytes r).drop (j + 1)) <;> simp, HR.out.2.2.1.below hb6 (by omega), HR.out.2.2.2.1.below hb6 (by omega), HR.out.2.2.2.2.1.trans (hb6.mono (by omega))⟩)
          clear hown6 hgrow hb6 c0 c1 c2 c3 c4 c5 d0 d1 d2 d3 d4 d5
          go_wp2
          go_roundw
          case rel => exact HN.out
          case measure => simp [Lib.intOf]; omega
      · have hlt1 : ¬ (j : Int) < (r.size : Int) := by omega
        have HN := Lib.hid (no_esc (r := bytes r) (by
          rw [HR.out.2.1, List.drop_eq_nil_of_le (by rw [bytes_len]; omega)]; rfl))
        go_wp2_with fail
        refine bodyPost_ret (by rw [results_ctt rfl]; go_simp; exact rfl) rfl ?_
        exact HF.out ⟨3, 0, ⟨#[]⟩⟩ r _ (HB9.out _ HR.out.2.2.2.2.1 _ _ _) HN.out
  by_cases hk0 : k = 0
  · subst hk0
    go_enter Tryd.func29, Tryd.ntmps29
    go_wp2_with fail
    refine bodyPost_ret (by rw [results_ctt rfl]; go_simp; exact rfl) rfl ?_
    exact HT.out ⟨0, 0, ⟨#[]⟩⟩ r _ (((Below.refl _ _).alloc (Nat.le_refl _) _).alloc (by simp) _) (.inl ⟨rfl, rfl, rfl⟩) rfl (by simp [keyV])
  · have HN := Lib.hid (show ∀ y l, Shp y → y.k = k → bytes r ≠ (keyV y).tail ++ l from fun y l hy hyk => by
      have := shp_k hy
      omega)
    go_enter Tryd.func29, Tryd.ntmps29
    go_wp2_with fail
    refine bodyPost_ret (by rw [results_ctt rfl]; go_simp; exact rfl) rfl ?_
    exact HF.out ⟨k, 0, ⟨#[]⟩⟩ r _ (((Below.refl _ _).alloc (Nat.le_refl _) _).alloc (by simp) _) HN.out
end Go.Proofs.YtkdhmbfmjlpfbaaDoor
