/-
  The landed timers keep the contract that the laws want.
-/
import Derived.Test.YtcjhkafdfeopfaaTmX
namespace Go.Proofs.Ytcjhkafdfeopfaa
open Go.RowKit Go.Lib Go.Maps

theorem impl : Impl TI where
  below h hb := h.below hb
  chg h hc hd := h.chg hc hd
  foot h _ hk := h.foot hk
  ok h := h.ok
  new w B hB := new_any w B hB
  set id t h hl _ hN _ := set_any id t h hl hN
  drop id h hl _ hN := drop_any id h hl hN
  at_ id h _ hN := at_any id h hN
  next h hl := next_any h hl
  due now h hl hB _ := due_any now h hl hB
  count h _ := tcount_any h
end Go.Proofs.Ytcjhkafdfeopfaa
