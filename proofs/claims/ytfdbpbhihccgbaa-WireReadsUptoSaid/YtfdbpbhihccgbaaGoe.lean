/- What steps leave as it must be: plain facts on a writer's state. No program's run. -/
import Derived.Test.YtfdbpbhihccgbaaDne
import Derived.Test.YtfdbpbhihccgbaaNum
namespace Go.Proofs.Ytfdbpbhihccgbaa
set_option linter.unusedVariables false
open Go.RowKit

/-- A state that may follow another one. -/
structure Goes (a b : WS) : Prop where
  ok : b.Ok
  fit : b.Fit
  lim : b.lim = a.lim
  stays : a.err ≠ 0 → b = a

theorem Goes.refl {a : WS} (h : a.Ok) (f : a.Fit) : Goes a a := ⟨h, f, rfl, fun _ => rfl⟩
theorem Goes.trans {a b c : WS} (h : Goes a b) (k : Goes b c) : Goes a c :=
  ⟨k.ok, k.fit, k.lim.trans h.lim, fun e => by have e1 := h.stays e; subst e1; exact k.stays e⟩
theorem Goes.fail {a : WS} (h : a.Ok) (f : a.Fit) (n : Nat) : Goes a (a.fail n) := ⟨h.fail n, f, rfl, fun e => WS.fail_bad e n⟩
theorem Goes.room {a : WS} (h : a.Ok) (f : a.Fit) (n : Nat) : Goes a (a.room n) := by
  unfold WS.room
  split
  · exact Goes.fail h f 11
  · exact Goes.refl h f
theorem Goes.raw {a : WS} (h : a.Ok) (f : a.Fit) (b : List UInt8) : Goes a (a.raw b) := by
  refine ⟨h.raw b, ?_, ?_, fun e => WS.raw_bad e b⟩
  · unfold WS.raw
    split
    · rename_i k
      obtain ⟨e, -, -⟩ := WS.room_ok k
      rw [e]
      intro q hq
      have := f q hq
      simp
      omega
    · exact (Goes.room h f _).fit
  · unfold WS.raw
    split
    · exact WS.room_lim a _
    · exact WS.room_lim a _
theorem Goes.text {a : WS} (h : a.Ok) (f : a.Fit) (s : ByteArray) : Goes a (a.text s) := by
  unfold WS.text
  repeat' split
  · exact Goes.refl h f
  · exact Goes.fail h f 13
  · exact Goes.fail h f 12
  · exact Goes.raw h f _
theorem Goes.opened {a : WS} (h : a.Ok) (f : a.Fit) : Goes a a.opened := by
  unfold WS.opened
  split
  · rename_i k
    obtain ⟨e, h1, h2⟩ := WS.room_ok k
    have h3 := h.os
    refine ⟨⟨h.lim, by simp; omega, by simp; omega⟩, ?_, rfl, fun x => absurd h2 x⟩
    intro q hq
    simp only [List.mem_append, List.mem_singleton] at hq
    simp only [List.length_append, List.length_cons, List.length_nil]
    rcases hq with hq | rfl
    · have := f q hq; omega
    · omega
  · exact Goes.room h f 2
theorem Goes.shut {a : WS} (h : a.Ok) (f : a.Fit) (x : Int) : Goes a (a.shut x) := by
  unfold WS.shut
  split
  · exact Goes.refl h f
  · rename_i he
    split
    · exact Goes.fail h f 1
    · rename_i q hq
      split
      · exact Goes.fail h f 1
      · split
        · exact Goes.fail h f 13
        · have h3 := h.os
          refine ⟨⟨h.lim, by simpa using h.bs, by simp; omega⟩, ?_, rfl, fun k => absurd k he⟩
          intro r hr
          have := f r (List.dropLast_subset _ hr)
          simpa using this
theorem Goes.numbered {a : WS} (h : a.Ok) (f : a.Fit) (k : Int) (n : Nat) : Goes a (a.numbered k n) := by
  unfold WS.numbered
  repeat' split
  all_goals first | exact Goes.raw h f _ | exact Goes.refl h f
end Go.Proofs.Ytfdbpbhihccgbaa
