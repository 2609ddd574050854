/-
  Short names.
-/
import Derived.Lib.Hide
import Derived.Below
import Derived.Deep.RegionHeld
namespace Go.Proofs.YtbpijgddfaefkaaGreatDoor
theorem Hy {p : Prop} (h : p) : Go.RowKit.Hid p := Lib.hid h
theorem _root_.Go.RowKit.Hid.o {p : Prop} (h : Go.RowKit.Hid p) : p := h.out
theorem _root_.Go.Shut.o {p : Prop} (h : Go.Shut p) : p := h.out
end Go.Proofs.YtbpijgddfaefkaaGreatDoor
