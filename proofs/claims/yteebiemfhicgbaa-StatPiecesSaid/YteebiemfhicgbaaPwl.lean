/- What the law asks of rows of records: their weights; whether two rows are alike. -/
import Derived.Test.YteebiemfhicgbaaPck
import Derived.BigQuiet
namespace Go.Proofs.Yteebiemfhicgbaa
set_option linter.unusedVariables false
open Go.RowKit
/-- A row of records that can be read. -/
def InRow (w : World) (v : Value) (l : List Rec) (T : List Nat) : Prop := ∃ a c, v = .slice a l.length c ∧ (0 < l.length → ∃ g o, a = some ⟨g, o, none⟩ ∧ g ∈ T ∧ RowAt w g o l)
theorem InRow.kept {w w' : World} {v : Value} {l : List Rec} {T S : List Nat} (h : InRow w v l T) (hk : Kept S w w') (hd : ∀ k ∈ T, k ∉ S) : InRow w' v l T := by
  obtain ⟨a, c, h1, h2⟩ := h
  refine ⟨a, c, h1, fun hp => ?_⟩
  obtain ⟨g, o, e, hg, hr⟩ := h2 hp
  exact ⟨g, o, e, hg, hr.kept hk (hd g hg)⟩
namespace Stt
open Go.Proofs.Yteebiemfhicgbaa.Txt

set_option maxHeartbeats 1000000 in
set_option maxRecDepth 100000 in
theorem weights_any (w : World) (v : Value) (l : List Rec) (T : List Nat) (hl : l.length ≤ 140737488355328) (ho : ∀ s ∈ l, s.Ok) (hR : Hid (InRow w v l T)) :
    Calls Try.prog 12 #[v] w fun e w' => ∃ x : Int, e = .returned (.int .i64 x) ∧ Kept [] w w' := by
  obtain ⟨a, c, rfl, hrow⟩ := id hR.out
  have hoh := Lib.hid ho
  have hrowh := Lib.hid hrow
  clear ho hrow
  go_enter Try.func12, Try.ntmps12
  go_wp2_with fail
  go_loopw [3, 4] (fun nv kv wr => ∃ (i n : Nat), i ≤ l.length ∧ kv = .int .i64 i ∧ nv = .int .i64 n ∧ n ≤ 562949953421400 + 268435456 ∧ Hid (Kept [] w wr)) (fun _ kv _ => l.length - (intOf kv).toNat)
  case atStart => exact ⟨0, 0, by omega, rfl, rfl, by omega, Kept.refl _ _⟩
  case round =>
    obtain ⟨i, n, hi, rfl, rfl, hn, hK⟩ := hrel
    by_cases hlt : i < l.length
    · have hlt' : (i : Int) < (l.length : Int) := by omega
      obtain ⟨s, hs⟩ : ∃ s, l[i]? = some s := ⟨_, List.getElem?_eq_getElem hlt⟩
      obtain ⟨g, o, rfl, -, hr⟩ := hrowh.out (by omega)
      obtain ⟨c0, c1, c2, c3, c4, c5, c6, c7, c8, c9, c10, c11, c12⟩ := (hr.kept hK.out (by simp)).cells hs
      have so := hoh.out s (List.mem_of_getElem? hs)
      have hsz : s.size ≤ 562949953421400 := by have := so.name; have := so.uid; have := so.gid; have := so.muid; unfold Rec.size; omega
      have W := weight_any wr s so
      obtain ⟨z, hz⟩ : ∃ z, z = s.size := ⟨_, rfl⟩
      rw [← hz] at W hsz
      obtain ⟨y0, y1, y2, y3, y4, y5, y6, y7, y8, y9, y10, y11, y12⟩ := s
      simp only [Rec.val, Rec.cells] at W c0 c1 c2 c3 c4 c5 c6 c7 c8 c9 c10 c11 c12
      have Wh := Lib.hid W
      clear W hs so hz hr
      by_cases hnb : n ≤ 268435456
      · have hnb' : (n : Int) ≤ 268435456 := by omega
        go_wp2_with fail
        refine Wh.out.mono ?_
        rintro e w2 ⟨rfl, k2⟩
        have K2 : Hid (Kept [] w w2) := hK.out.trans k2 (fun i hi => by simp at hi)
        clear c0 c1 c2 c3 c4 c5 c6 c7 c8 c9 c10 c11 c12 k2
        go_wp2_with fail
        go_roundw
        case rel => exact ⟨i + 1, n + z, by omega, by go_num, by go_num, by omega, K2⟩
        case measure => simp [intOf]; omega
      · have hnb' : ¬ (n : Int) ≤ 268435456 := by omega
        clear c0 c1 c2 c3 c4 c5 c6 c7 c8 c9 c10 c11 c12 Wh
        go_wp2_with fail
        go_ret
        exact ⟨⟨_, rfl⟩, hK.out⟩
    · have hlt' : ¬ ((i : Int) < (l.length : Int)) := by omega
      go_wp2_with fail
      go_ret
      exact ⟨⟨_, rfl⟩, hK.out⟩

set_option maxHeartbeats 2000000 in
set_option maxRecDepth 100000 in
theorem alike_any (w : World) (g1 g2 c1 c2 : Nat) (l : List Rec) (hl : l.length ≤ 140737488355328) (h1 : Hid (RowAt w g1 0 l)) (h2 : Hid (RowAt w g2 0 l)) :
    Calls Try.prog 17 #[.slice (some ⟨g1, 0, none⟩) l.length c1, .slice (some ⟨g2, 0, none⟩) l.length c2] w fun e w' => e = .returned (.bool true) ∧ Kept [] w w' := by
  go_enter Try.func17, Try.ntmps17
  go_wp2_with fail
  go_loopw [5] (fun kv wr => ∃ (i : Nat), i ≤ l.length ∧ kv = .int .i64 i ∧ Hid (Kept [] w wr)) (fun kv _ => l.length - (intOf kv).toNat)
  case atStart => exact ⟨0, by omega, rfl, Kept.refl _ _⟩
  case round =>
    obtain ⟨i, hi, rfl, hK⟩ := hrel
    by_cases hlt : i < l.length
    · have hlt' : (i : Int) < (l.length : Int) := by omega
      obtain ⟨s, hs⟩ : ∃ s, l[i]? = some s := ⟨_, List.getElem?_eq_getElem hlt⟩
      obtain ⟨c0, c1, c2, c3, c4, c5, c6, c7, c8, c9, c10, c11, c12⟩ := (h1.out.kept hK.out (by simp)).cells hs
      obtain ⟨d0, d1, d2, d3, d4, d5, d6, d7, d8, d9, d10, d11, d12⟩ := (h2.out.kept hK.out (by simp)).cells hs
      obtain ⟨y0, y1, y2, y3, y4, y5, y6, y7, y8, y9, y10, y11, y12⟩ := s
      simp only [Nat.zero_add] at c0 c1 c2 c3 c4 c5 c6 c7 c8 c9 c10 c11 c12 d0 d1 d2 d3 d4 d5 d6 d7 d8 d9 d10 d11 d12
      have EQ := rec_eql
      clear hs
      go_wp2_with fail
      go_quiet (fail)
      go_wp2_with fail
      go_roundw
      case rel => exact ⟨i + 1, by omega, by go_num, by first | exact hK.out.drewN _ | exact hK.out.drew | exact hK.out⟩
      case measure => simp [intOf]; omega
    · have hlt' : ¬ ((i : Int) < (l.length : Int)) := by omega
      go_wp2_with fail
      go_ret
      exact ⟨rfl, hK.out⟩
end Stt
end Go.Proofs.Yteebiemfhicgbaa
