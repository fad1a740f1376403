/-
  What the walks of layer 11's statements want of package slot.
-/
import Derived.Test.YtbeahhijmgkfhaaLMem
namespace Go.Proofs.Ytbeahhijmgkfhaa
open Go.RowKit Go.Shelf

/-- Package slot answers as the document says. -/
structure Pk : Prop where
  check : ∀ (s : Vl.Th) (A : Option Addr) (n cp : Nat) (w : World), Fits s → BS w A n s.dt → n ≤ 1000 → Calls Try.prog 14 #[.agg (sc s (.slice A n cp)).toArray] w fun e w' => e = .returned (.int .i64 (Sl.chkS s)) ∧ Below w.heap.size w w'
  put : ∀ (s : Vl.Th) (A : Option Addr) (n cp : Nat) (w : World), Fits s → BS w A n s.dt → n ≤ 1000 → Calls Try.prog 10 #[.agg (sc s (.slice A n cp)).toArray] w (PutQ (Sl.put s) (Sl.chkS s) w)
  get : ∀ (l : List UInt8) (A : Option Addr) (n cp : Nat) (w : World), BS w A n l → n ≤ 2000 → Calls Try.prog 17 #[.slice A n cp] w (GetSQ (Sl.got l) (Sl.err l) w)
  same : ∀ (s t : Vl.Th) (A : Option Addr) (n cp : Nat) (B : Option Addr) (m cq : Nat) (w : World), BS w A n s.dt → BS w B m t.dt → n ≤ 1000 → m ≤ 1000 → Calls Try.prog 16 #[.agg (sc s (.slice A n cp)).toArray, .agg (sc t (.slice B m cq)).toArray] w fun e w' => e = .returned (.bool (decide (s = t))) ∧ Below w.heap.size w w'
  handle : ∀ (s : Vl.Th) (v : Value) (w : World), Calls Try.prog 13 #[.agg (sc s v).toArray] w fun e w' => e = .returned (.agg (hc s.ino s.gen).toArray) ∧ Below w.heap.size w w'
  awake : ∀ w : World, Calls Try.prog 9 #[] w fun e w' => e = .returned (.bool true) ∧ Below w.heap.size w w'
end Go.Proofs.Ytbeahhijmgkfhaa
