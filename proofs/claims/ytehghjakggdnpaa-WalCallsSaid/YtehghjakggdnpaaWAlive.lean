/-
  alive: what the document fixes: it answers true.
-/
import Derived.Test.YtehghjakggdnpaaWApp
import Derived.Test.YtehghjakggdnpaaWOpen
import Derived.Test.YtehghjakggdnpaaWForm
import Derived.Lib.SlBytesConst
namespace Go.Proofs.Ytehghjakggdnpaa
open Go.RowKit Go.Lib

section
variable {w0 w w' : World} {g l : Nat} {F : Nat → Prop} {s s' : DS} {gen area used next gen' area' used' next' : Int}
theorem WLive.step (h : WLive w0 w g l F s gen area used next) (hd : DiskAt w' g (Ext F w w') s') (hl : LogAt w' l g gen' area' used' next') (hc : Chg (FL F l) w w') : WLive w0 w' g l (Ext F w w') s' gen' area' used' next' :=
  ⟨hd, hl, fun e => e.elim h.nf fun e => by have := h.lg.lt; omega, fun k hk => hk.elim (h.lo k) fun e => Nat.le_trans h.b.size e.1, h.lol, h.b.trans (hc.below (fun k hk => hk.elim (h.lo k) fun e => e ▸ h.lol) h.b.size)⟩
theorem WLive.stepF (h : WLive w0 w g l F s gen area used next) (hd : DiskAt w' g (Ext F w w') s') (hc : Chg F w w') : WLive w0 w' g l (Ext F w w') s' gen area used next :=
  h.step hd (h.lg.chg hc h.nf) (hc.mono fun k _ hk => .inl hk)
theorem WLive.below (h : WLive w0 w g l F s gen area used next) (hb : Below w.heap.size w w') : WLive w0 w' g l F s gen area used next :=
  ⟨h.d.below hb, h.lg.below hb, h.nf, h.lo, h.lol, h.b.trans (hb.mono h.b.size)⟩
theorem WLive.drewN (h : WLive w0 w g l F s gen area used next) (k : Nat) : WLive w0 (w.drewN k) g l F s gen area used next := h.below ((Below.refl _ w) |> fun h => bdr h k)
theorem WLive.drew (h : WLive w0 w g l F s gen area used next) : WLive w0 w.drew g l F s gen area used next := ⟨h.d, h.lg, h.nf, h.lo, h.lol, h.b.drew⟩
theorem WLive.alloc (h : WLive w0 w g l F s gen area used next) (o : Obj) : WLive w0 (w.alloc o) g l F s gen area used next := h.below ((Below.refl _ w).alloc (Nat.le_refl _) o)
end

def alS0 : DS := ⟨secs [] 20, []⟩
def alS1 : DS := (alS0.write 1 (headB 1 0 1)).flush
def alS2 : DS := (appS alS1 0 0 1 [97, 98]).flush
def alS3 : DS := appS alS2 0 1 2 [99, 100]
def alS4 : DS := alS3.crash 0 60
theorem al1 : alS1.half = 9 ∧ alS1.last.length = 20 ∧ alS1.wr.length = 0 := by decide +kernel
theorem al2 : alS2.half = 9 ∧ alS2.last.length = 20 ∧ alS2.wr.length = 0 := by decide +kernel
theorem al3 : alS3.half = 9 ∧ alS3.last.length = 20 := by decide +kernel
theorem al4 : headOfM alS4.cur = some (1, 0, 1) ∧ alS4.half = 9 ∧ alS4.last.length = 20 := by decide +kernel
theorem al4b : AllBytes alS4.cur := by unfold AllBytes IsBytes; decide +kernel
theorem al4r : recsM alS4.cur (alS4.half + 1) (2 + (0 : Int).toNat * alS4.half) alS4.half 1 = ([[97, 98]], 1) := by decide +kernel
theorem al0b : AllBytes alS0.cur := by unfold AllBytes IsBytes; decide +kernel
theorem al0g : (0 : Int) = great4 alS0.cur 0 2 ∧ (1 : Int) = great4 alS0.cur 2 (2 * alS0.half) + 1 := by decide +kernel

/-- it answers true, and nothing that was there has turned -/
def YesB (w : World) (e : Ending) (w' : World) : Prop := e = .returned (.bool true) ∧ Below w.heap.size w w'
theorem mk_ab : mkStr [97, 98] = ⟨#[97, 98]⟩ := rfl
theorem one_list {xs : List Sl} {r : List Int} (h : lists xs = [r]) : ∃ x, xs = [x] ∧ x.l = r := by
  match xs, h with
  | [x], h => exact ⟨x, rfl, by simpa [lists] using h⟩

theorem conv_ab (w : World) (x y : Int) : (convert 38 38 (.slice (some ⟨w.heap.size, 0, none⟩) 2 2)).run Try.prog (w.alloc (.cells #[.int .u8 x, .int .u8 y] 5)) = .ok (.slice (some ⟨w.heap.size, 0, none⟩) 2 2) (w.alloc (.cells #[.int .u8 x, .int .u8 y] 5 (2, 3))) := by
  have h := run_convert_bytes_const (P := Try.prog) w 38 5 #[.int .u8 x, .int .u8 y] 2 2 Try.underlying38 Try.underlying5
  exact h
theorem rd_ab (w : World) (x y : Int) : Rd (w.alloc (.cells #[.int .u8 x, .int .u8 y] 5 (2, 3))) (w.alloc (.cells #[.int .u8 x, .int .u8 y] 5 (2, 3))).heap.size (some ⟨w.heap.size, 0, none⟩) 2 (cells [x, y]) := by
  refine ⟨rfl, fun _ => ⟨_, rfl, by simp, fun j u hu => ?_⟩⟩
  rw [Addr.add_mid, Nat.zero_add]
  have h := cell_of_row (w.alloc (.cells #[.int .u8 x, .int .u8 y] 5 (2, 3))) w.heap.size j #[.int .u8 x, .int .u8 y] 5 (2, 3) (World.alloc_heap_new w _)
  rw [h]
  simpa [cells] using hu

set_option maxRecDepth 100000 in
set_option maxHeartbeats 3200000 in
theorem alive_any (w : World) : Calls Try.prog 8 #[] w (YesB w) := by
  have hcv := conv_ab
  go_enter Try.func8, Try.ntmps8
  go_wp2_with fail
  refine (dknew_any w 20 (by omega) (by omega)).mono ?_
  rintro e w1 ⟨g, rfl, hd, hb⟩
  rw [show (⟨secs [] 20, []⟩ : DS) = alS0 from rfl] at hd
  have lo1 : ∀ k, Ext Non w w1 k → w.heap.size ≤ k := fun k hk => hk.elim (fun h => h.elim) fun h => h.1
  have H1 := Lib.hid (And.intro hd (And.intro hb lo1))
  clear hd hb lo1
  go_wp2_with fail
  refine (format_any H1.out.1 H1.out.2.2 H1.out.2.1 al0b (by decide +kernel) (by decide) 0 1 al0g.1 al0g.2 (by omega) (by omega)).mono ?_
  rw [show ((alS0.write (((0 : Int) + 1) % 2).toNat (headB (0 + 1) 0 1)).flush) = alS1 from rfl]
  rintro e w2 ⟨l, F2, rfl, h2⟩
  have H2 := Lib.hid h2
  clear h2
  go_wp2_with fail
  have hr2 := rd_ab w2 97 98
  have H2a := Lib.hid (H2.out.alloc (.cells #[.int .u8 97, .int .u8 98] 5 (2, 3)))
  refine (append_ok (u := 0) H2a.out.d H2a.out.lg H2a.out.nf (by rw [al1.2.1]; omega) (.inl rfl) (by omega) (by omega) _ 2 2 [97, 98] hr2 (by omega) (by unfold isFull; rw [al1.1]; decide) (by rw [al1.2.2]; omega)).mono ?_
  rintro e w3 ⟨rfl, hd3, hl3, hc3⟩
  have H3 := Lib.hid (H2a.out.step hd3 hl3 hc3)
  clear hd3 hl3 hc3 hr2
  go_wp2_with fail
  refine (wflush_any H3.out.d H3.out.lg H3.out.nf).mono ?_
  rintro e w4 ⟨rfl, hd4, hl4, hc4⟩
  have h4 := H3.out.stepF hd4 hc4
  rw [show (appS alS1 0 0 1 [97, 98]).flush = alS2 from rfl] at h4
  have H4 := Lib.hid h4
  clear hd4 hl4 hc4 h4
  go_wp2_with fail
  have hr4 := rd_ab w4 99 100
  have H4a := Lib.hid (H4.out.alloc (.cells #[.int .u8 99, .int .u8 100] 5 (2, 3)))
  refine (append_ok (u := 1) (next := 2) H4a.out.d H4a.out.lg H4a.out.nf (by rw [al2.2.1]; omega) (.inl rfl) (by rw [al2.1]; omega) (by omega) _ 2 2 [99, 100] hr4 (by omega) (by unfold isFull; rw [al2.1]; decide) (by rw [al2.2.2]; omega)).mono ?_
  rintro e w5 ⟨rfl, hd5, hl5, hc5⟩
  have h5 := H4a.out.step hd5 hl5 hc5
  rw [show appS alS2 0 1 2 [99, 100] = alS3 from rfl] at h5
  have H5 := Lib.hid h5
  clear hd5 hl5 hc5 hr4 h5
  go_wp2_with fail
  refine (room_r (u := 2) 7 H5.out.d H5.out.lg (by rw [al3.2]; omega) (by rw [al3.1])).mono ?_
  rintro e w6 ⟨rfl, p, rfl⟩
  go_wp2_with fail
  refine (crash_any (h := by exact H5.out.d) 0 60).mono ?_
  rw [show alS3.crash 0 60 = alS4 from rfl]
  rintro e w7 ⟨rfl, hd7, hc7⟩
  have H7 := Lib.hid ((H5.out.drewN p).stepF hd7 hc7)
  clear hd7 hc7
  go_wp2_with fail
  refine (open_some H7.out.d al4b (by rw [al4.2.2]; omega) 1 0 1 al4.1 (.inl rfl) (by omega) (by omega)).mono ?_
  rw [al4r]
  rintro e w8 ⟨l8, v8, xs, rfl, ho8, hs8, hls8, _, _, _, hb8⟩
  obtain ⟨x, rfl, hx⟩ := one_list hls8
  obtain ⟨gv, cv, rfl, _, _⟩ := ho8.form (by simp)
  have c8 := ho8.cellAt 0 (by simp [vals])
  have hxr := (hs8 x (by simp)).1
  rw [hx] at hxr
  have hstr := run_strw (P := Try.prog) w8 38 9 5 x.A x.n x.c _ [97, 98] Try.underlying38 Try.underlying5 Try.underlying9 hxr
  rw [mk_ab] at hstr
  have HB := Lib.hid (H7.out.b.trans (hb8.mono H7.out.b.size))
  clear ho8 hs8 hls8 hb8 hxr hcv
  simp only [vals, Sl.val, List.map_cons, List.map_nil, List.length_cons, List.length_nil] at c8 ⊢
  go_wp2_with fail
  go_ret
  exact ⟨rfl, HB.out⟩
end Go.Proofs.Ytehghjakggdnpaa
