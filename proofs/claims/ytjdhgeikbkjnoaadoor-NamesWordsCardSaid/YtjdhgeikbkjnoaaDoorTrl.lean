/- strings.TrimLeft at blanks and tabs. -/
import Derived.Test.YtjdhgeikbkjnoaaDoorWwd
import Derived.Test.YtjdhgeikbkjnoaaDoorArr
import Derived.Lib.AsciiSet
namespace Go.Proofs.YtjdhgeikbkjnoaaDoor
set_option linter.unusedVariables false
open Go.RowKit Go.Shelf
attribute [local go_sem] Oper.semAt_some
namespace Nm
open Go.Proofs.YtjdhgeikbkjnoaaDoor.Utf Go.Proofs.YtjdhgeikbkjnoaaDoor.Txt Go.PlainAid

def blk : ByteArray := ⟨#[32, 9]⟩
def strSize (v : Value) : Nat := match v with | .string t => t.size | _ => 0
theorem blank_at (c : UInt8) : (Lib.setCells blk.data.toList)[c.toNat]? = some (.bool (blank c)) := by
  rw [Lib.setCells_at]
  congr 2
  have e : blk.data.toList = [32, 9] := rfl
  rw [e]
  unfold blank
  by_cases h1 : c = 32
  · subst h1; rfl
  · by_cases h2 : c = 9
    · subst h2; rfl
    · simp [h1, h2]
theorem trim_cons_true {c : UInt8} {l : List UInt8} (h : blank c = true) : trim (c :: l) = trim l := by unfold trim; rw [List.dropWhile_cons, if_pos h]
theorem trim_cons_false {c : UInt8} {l : List UInt8} (h : blank c = false) : trim (c :: l) = c :: l := by unfold trim; rw [List.dropWhile_cons, if_neg (by simp [h])]

set_option maxHeartbeats 8000000 in
set_option maxRecDepth 100000 in
theorem trimAscii_any (w : World) (R : Nat) (s : ByteArray) (h : w.heap[R]? = some (.cells (Lib.setCells blk.data.toList) 109 (0, 0))) :
    Calls Tryd.prog 77 #[.string s, .pointer (some ⟨R, 0, none⟩)] w fun e w' => e = .returned (.string (toB (trim (dl s)))) ∧ w' = w := by
  have CT := Lib.hid (fun c => Tryd.asciiSet_contains R c (blank c) w (by rw [cell_of_row w R _ _ _ (0, 0) h]; exact blank_at c))
  obtain ⟨z, hz⟩ : ∃ z, z = trim (dl s) := ⟨_, rfl⟩
  have HZ := Lib.hid hz
  rw [← hz]
  clear h hz
  go_enter Tryd.func77, Tryd.ntmps77
  go_wp2_with fail
  go_loopw [0] (fun sv wr => ∃ t, sv = .string t ∧ wr = w ∧ Hid (trim (dl t) = z)) (fun sv _ => strSize sv)
  case atStart => exact ⟨s, rfl, rfl, HZ.out.symm⟩
  case round =>
    obtain ⟨t, rfl, rfl, hT⟩ := hrel
    have hlen := dl_length t
    cases h0 : dl t with
    | nil =>
      have hs0 : t.size = 0 := by rw [← hlen, h0]; rfl
      have e1 : toB z = t := by rw [← hT.out, h0]; show toB [] = t; rw [← toB_dl t, h0]
      have E1 := Lib.hid e1
      clear h0 hlen e1
      go_wp2_with fail
      go_ret
      exact ⟨by rw [E1.out]; rfl, rfl⟩
    | cons c l =>
      have hs0 : 0 < t.size := by rw [← hlen, h0]; simp
      have hx := Lib.hid (first h0 hs0)
      have H0 := Lib.hid h0
      have CTc := Lib.hid (CT.out c)
      obtain ⟨b, hb⟩ : ∃ b, b = blank c := ⟨_, rfl⟩
      rw [← hb] at CTc
      have HB := Lib.hid hb
      clear h0 hb hlen
      go_wp2_with fail
      rw [hx.out]
      refine CTc.out.mono ?_
      rintro e w2 ⟨rfl, rfl⟩
      cases b with
      | true =>
        go_wp2_with fail
        go_roundw
        case rel =>
          refine ⟨_, rfl, trivial, ?_⟩
          show trim (dl (t.extract 1 t.size)) = z
          rw [dl_drop, H0.out, ← hT.out, H0.out, trim_cons_true HB.out.symm]
          rfl
        case measure =>
          show (t.extract 1 t.size).size < t.size
          rw [ByteArray.size_extract]
          omega
      | false =>
        have e1 : toB z = t := by rw [← hT.out, H0.out, trim_cons_false HB.out.symm, ← H0.out]; exact toB_dl t
        have E1 := Lib.hid e1
        clear e1
        go_wp2_with fail
        go_ret
        exact ⟨by rw [E1.out]; rfl, rfl⟩

set_option maxHeartbeats 8000000 in
set_option maxRecDepth 100000 in
theorem trimLeft_blanks (w : World) (s : ByteArray) :
    Calls Tryd.prog 59 #[.string s, .string ⟨#[32, 9]⟩] w fun e w' => e = .returned (.string (toB (trim (dl s)))) ∧ Kept [] w w' := by
  have hz : ∀ w, (zeroValue 109).run Tryd.prog w = .ok (.agg (Array.replicate 256 (.bool false))) w := fun w => (zero_of_info (P := Tryd.prog) (t := 109) (n := 256) (by kernel_rfl)).1 w
  have hsz : (Tryd.prog.info? 109).map (·.size) = some 256 := (zero_of_info (P := Tryd.prog) (t := 109) (v := .agg (Array.replicate 256 (.bool false))) (by kernel_rfl)).2
  have MA := Lib.hid (fun w => Tryd.strings_makeASCIISet hz ⟨#[32, 9]⟩ w (by decide) (fun j b hb => by
    have hm : b ∈ ([32, 9] : List UInt8) := List.mem_of_getElem? hb
    simp at hm
    rcases hm with rfl | rfl <;> decide))
  have TA := Lib.hid (fun w R h => trimAscii_any w R s h)
  obtain ⟨z, hzz⟩ : ∃ z, z = toB (trim (dl s)) := ⟨_, rfl⟩
  rw [← hzz] at TA ⊢
  have HZ := Lib.hid hzz
  have HSZ := Lib.hid hsz
  clear hzz hsz
  obtain ⟨cs, hcs⟩ : ∃ cs, cs = Lib.setCells blk.data.toList := ⟨_, rfl⟩
  have hc : cs.size = 256 := by rw [hcs]; exact Lib.setCells_size _
  have HCS := Lib.hid hcs
  have ONE : Hid (cs.all (·.oneCell') = true) := by
    rw [hcs, Lib.setCells_eq]
    show _ = true
    rw [Array.all_eq_true]
    intro i hi
    simp [Value.oneCell']
  have hcs2 : cs = Lib.setCells (⟨#[32, 9]⟩ : ByteArray).data.toList := hcs
  rw [← hcs2] at MA
  rw [← hcs] at TA
  clear hcs2
  by_cases h0 : s.toList = []
  · have e1 : s = z := by
      have e2 : dl s = [] := by rw [← toList_dl]; exact h0
      rw [HZ.out, e2]
      show s = toB []
      rw [← e2, toB_dl]
    have E1 := Lib.hid e1
    clear e1 hz hcs
    go_enter Tryd.func59, Tryd.ntmps59
    go_wp2_with fail
    go_ret
    exact ⟨by rw [← E1.out]; rfl, Kept.refl _ _⟩
  · have b0 : s.toList.isEmpty = false := by rw [List.isEmpty_eq_false_iff]; exact h0
    clear h0 hcs
    go_enter Tryd.func59, Tryd.ntmps59
    go_wp2_with fail
    refine (MA.out w).mono ?_
    rintro e w2 ⟨rfl, hw2⟩
    have K2 : Hid (Kept [] w w2) := by rw [hw2]; exact (Kept.refl _ _).alloc _
    have SC := run_storeCells_new (P := Tryd.prog) w2 109 (Array.replicate 256 (.bool false)) cs (by rw [HSZ.out, hc]) (by rw [hc]; simp) ONE.out
    have TA2 := Lib.hid (TA.out (w2.alloc (.cells cs 109)) w2.heap.size (heap_alloc_new w2 _))
    have K3 : Hid (Kept [] w (w2.alloc (.cells cs 109))) := K2.out.alloc _
    clear hw2 MA TA
    go_wp2_with fail
    refine TA2.out.mono ?_
    rintro e w3 ⟨rfl, rfl⟩
    go_wp2_with fail
    go_ret
    exact ⟨rfl, K3.out⟩
end Nm
end Go.Proofs.YtjdhgeikbkjnoaaDoor
