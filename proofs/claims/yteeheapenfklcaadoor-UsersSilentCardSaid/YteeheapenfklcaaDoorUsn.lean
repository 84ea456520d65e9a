/- UsersSilent: what silent makes of a text; an account without members, in memory, and its line. -/
import Derived.Test.YteeheapenfklcaaDoorUsm
import Derived.Test.YteeheapenfklcaaDoorUgw
namespace Go.Proofs.YteeheapenfklcaaDoor
set_option linter.unusedVariables false
open Go.RowKit Go.Shelf
attribute [local go_sem] Oper.semAt_some
namespace Us
open Go.Proofs.YteeheapenfklcaaDoor.Utf Go.Proofs.YteeheapenfklcaaDoor.Txt Go.PlainAid Go.Proofs.YteeheapenfklcaaDoor.Mpf
def silD (s : ByteArray) (j : Nat) : List UInt8 := ((dl s).take j).filter (fun c => c != 10)
def silL (l : List UInt8) : List UInt8 := if l = [] then [] else 35 :: l
def silLn (s : ByteArray) : Ln := .nil (silL (silD s 60))
theorem silD_len (s : ByteArray) (j : Nat) : (silD s j).length ≤ j := by
  unfold silD
  exact Nat.le_trans (List.length_filter_le _ _) (by rw [List.length_take]; omega)
theorem silD_step {s : ByteArray} {j : Nat} (hs : j < s.size) : silD s (j + 1) = if (s[j]'hs) = 10 then silD s j else silD s j ++ [s[j]'hs] := by
  have hl : j < (dl s).length := by rw [dl_length]; exact hs
  have e2 : (dl s).take (j + 1) = (dl s).take j ++ [s[j]'hs] := by rw [List.take_succ_eq_append_getElem hl]; rfl
  unfold silD
  rw [e2, List.filter_append]
  by_cases h : (s[j]'hs) = 10
  · rw [if_pos h, h]; simp
  · rw [if_neg h]
    have : ([s[j]'hs].filter (fun c => c != 10)) = [s[j]'hs] := by simp [h]
    rw [this]
theorem silD_end {s : ByteArray} {j : Nat} (h1 : s.size ≤ j) (h2 : j ≤ 60) : silD s j = silD s 60 := by
  unfold silD
  rw [List.take_of_length_le (by rw [dl_length]; exact h1), List.take_of_length_le (by rw [dl_length]; omega)]
theorem sil_fine (s : ByteArray) : Fine (silLn s) := by
  have h10 : (10 : UInt8) ∉ silD s 60 := by unfold silD; simp
  unfold silLn silL
  by_cases h : silD s 60 = []
  · rw [if_pos h]; exact ⟨by simp, by decide⟩
  · rw [if_neg h]
    refine ⟨by simp [h10], ?_⟩
    unfold says
    rw [dl_ofL]
    simp [Lib.hasPrefix]
theorem sil_len (s : ByteArray) : (silLn s).lin.length ≤ 61 := by
  have := silD_len s 60
  show (silL (silD s 60)).length ≤ 61
  unfold silL
  split
  · simp
  · simp only [List.length_cons]; omega
structure SilI (w wx : World) (v : Value) (l : List UInt8) : Prop where
  own : wx.ownsRow w.heap.size 5 1 v l.length (Lib.byteCells l)
  kept : Kept [] w wx
theorem SilI.push {w W w7 : World} {v v' : Value} {l : List UInt8} {b : UInt8} {o : Obj} (h : SilI w W v l) (hg : (W.alloc o).grownBy w7 v.ownBlock) (ho : w7.ownsRow w.heap.size 5 1 v' (l.length + 1) (Lib.byteCells l ++ [.int .u8 (b.toNat : Nat)])) : SilI w w7 v' (l ++ [b]) := by
  have kA : Kept v.ownBlock.toList W w7 := ((Kept.refl v.ownBlock.toList W).alloc o).grown hg (fun k e => Or.inl (by rw [e]; simp))
  refine ⟨by simpa [Lib.byteCells] using ho, h.kept.trans kA (fun j hj => Or.inr (h.own.lt j (by simpa using hj)).1)⟩
theorem info_u8 : (Tryd.prog.info? 5).map (fun i => (i.zero, i.size, i.bytes)) = some (some (.int .u8 0), 1, 1) := by kernel_rfl
set_option maxHeartbeats 8000000 in
set_option maxRecDepth 100000 in
theorem silent_any (w : World) (s : ByteArray) : Calls Tryd.prog 25 #[.string s] w fun e w' => e = .returned (.string (ofL ((silLn s).lin ++ [10]))) ∧ Kept [] w w' := by
  show Calls Tryd.prog 25 #[.string s] w fun e w' => e = .returned (.string (ofL (silL (silD s 60) ++ [10]))) ∧ Kept [] w w'
  obtain ⟨i0, hi0, hz0, hz1, hz2⟩ := info_parts info_u8
  have HI0 := Lib.hid (And.intro hi0 (And.intro hz0 (And.intro hz1 hz2)))
  have L60 : Hid (∀ l, l = silD s 60 → l.length ≤ 60) := fun l e => by rw [e]; exact silD_len s 60
  have I0 : Hid (SilI w w (.slice none 0 0) (silD s 0)) := ⟨World.ownsRow_nil _ _ _ _, Kept.refl _ _⟩
  clear hi0 hz0 hz1 hz2
  go_enter Tryd.func25, Tryd.ntmps25
  go_wp2_with fail
  go_loopw [3, 4] (fun bv jv wx => ∃ j : Nat, jv = .int .i64 j ∧ j ≤ s.size ∧ j ≤ 60 ∧ Hid (SilI w wx bv (silD s j))) (fun _ jv _ => 60 - (intOf jv).toNat)
  case atStart => exact ⟨0, rfl, by omega, by omega, I0⟩
  case round =>
    obtain ⟨j, rfl, hj1, hj2, IM⟩ := hrel
    by_cases hs : j < s.size
    · have s1 : (j : Int) < (s.size : Int) := by omega
      by_cases h60 : j < 60
      · have s2 : (j : Int) < 60 := by omega
        obtain ⟨b, hb⟩ : ∃ b, b = s[j]'hs := ⟨_, rfl⟩
        have ST := silD_step hs
        rw [← hb] at ST
        obtain ⟨bn, hbn⟩ : ∃ bn, bn = b.toNat := ⟨_, rfl⟩
        have e1 : (((s[j]'hs).toNat : Nat) : Int) = (bn : Int) := by rw [hbn, hb]
        by_cases h10 : b = 10
        · have e10 : (bn : Int) = 10 := by rw [hbn, h10]; rfl
          rw [e10] at e1
          have IN : Hid (SilI w wr u3 (silD s (j + 1))) := by show SilI _ _ _ _; rw [ST, if_pos h10]; exact IM.out
          clear ST hb hbn h10 e10
          go_wp2_with fail
          go_roundw
          case rel => exact ⟨j + 1, by go_num, by omega, by omega, IN⟩
          case measure => simp [intOf]; omega
        · have e10 : ¬ (bn : Int) = 10 := fun e => h10 (UInt8.toNat_inj.1 (by show b.toNat = 10; omega))
          rw [if_neg h10] at ST
          have HST := Lib.hid ST
          have HBN := Lib.hid hbn
          obtain ⟨l, hl⟩ : ∃ l, l = silD s j := ⟨_, rfl⟩
          have hl60 : l.length ≤ 60 := by rw [hl]; have := silD_len s j; omega
          rw [← hl] at IM HST
          obtain ⟨sa, sc, hbv⟩ := own_slg IM.out.own
          subst hbv
          have HB0 := Lib.hid IM.out.kept.size
          clear ST hb hbn h10 hl
          go_wp2_with (at_builtin; refine wpList_append_src (wr.alloc (.cells #[.int .u8 (bn : Int)] 5)) rfl (.tmp 19) (.tmp 23) 68 rfl w.heap.size 5 i0 (.int .u8 0) 1 1 Tryd.underlying68 HI0.out.1 HI0.out.2.1 HI0.out.2.2.1 HI0.out.2.2.2 rfl (by decide) (.slice sa l.length sc) l.length (Lib.byteCells l) (by simp [Act.eval]) (own_kept IM.out.own ((Kept.refl [] wr).alloc _) (fun _ _ h => by cases h)) (.slice (some ⟨wr.heap.size, 0, none⟩) 1 1) 1 [.int .u8 (bn : Int)] (by simp [Act.eval]) (Or.inr ⟨_, _, rfl, World.news_of_block (cs := #[.int .u8 (bn : Int)]) (by exact (MapKept.heap_alloc wr _).1)⟩) rfl (by intro u hu; simp at hu; subst hu; rfl) (by unfold maxLen; omega) (by omega) (by have := HB0.out; simp; omega) ?_; intro v7 w7 hown7 hgrow7 hat7; have HOW := Lib.hid hown7; have HGR := Lib.hid hgrow7; clear hown7 hgrow7 hat7)
          have IP : Hid (SilI w w7 v7 (silD s (j + 1))) := by
            show SilI _ _ _ _
            rw [HST.out]
            exact IM.out.push HGR.out (by have h9 := HOW.out; rw [HBN.out] at h9; exact h9)
          go_roundw
          case rel => exact ⟨j + 1, by go_num, by omega, by omega, IP⟩
          case measure => simp [intOf]; omega
      · have s2 : ¬ (j : Int) < 60 := by omega
        obtain rfl : j = 60 := by omega
        have IE : Hid (SilI w wr u3 (silD s 60)) := IM.out
        clear IM
        obtain ⟨l, hl⟩ : ∃ l, l = silD s 60 := ⟨_, rfl⟩
        rw [← hl] at IE
        have NE : Hid (ofL (silL l ++ [10]) = ofL (silL (silD s 60) ++ [10])) := by show _ = _; rw [hl]
        obtain ⟨n, hn⟩ : ∃ n, n = l.length := ⟨_, rfl⟩
        obtain ⟨ba, bc, hbv⟩ := own_slg IE.out.own
        rw [← hn] at hbv
        subst hbv
        by_cases h0 : n = 0
        · subst h0
          obtain rfl : l = [] := List.length_eq_zero_iff.1 hn.symm
          clear hn hl
          go_wp2_with fail
          go_ret
          exact ⟨congrArg (fun s => Ending.returned (Value.string s)) NE.out, IE.out.kept⟩
        · have j3 : ¬ (n : Int) = 0 := by omega
          have hg := IE.out.own
          have CV : ∃ g, ba = some ⟨g, 0, none⟩ ∧ (Go.convert 68 9 (.slice (some ⟨g, 0, none⟩) n bc)).run Tryd.prog wr = .ok (.string (ofL l)) wr := by
            rcases hg.2 with ⟨e, h9⟩ | ⟨g, cap, cur, e, -⟩
            · omega
            · cases e
              refine ⟨g, rfl, ?_⟩
              exact run_convert_bytes_back (P := Tryd.prog) wr 68 9 5 ⟨g, 0, none⟩ bc l Tryd.underlying68 Tryd.underlying5 Tryd.underlying9 (fun j hj => by
                have h1 := World.ownsRow.cellAt hg j (by omega)
                have h2 : (⟨g, 0, none⟩ : Addr).add j = ⟨g, j, none⟩ := by simp [Addr.add]; exact fun h => h.symm
                rw [h2, h1]
                rw [Lib.byteCells, List.getElem?_map, List.getElem?_eq_getElem hj]; rfl)
          obtain ⟨g, rfl, cv⟩ := CV
          obtain ⟨z, hz⟩ : ∃ z, z = ofL l := ⟨_, rfl⟩
          rw [← hz] at cv
          have l60 : l.length ≤ 60 := L60.out l hl
          have zs : z.size ≤ 60 := by rw [hz, ofL_size]; exact l60
          have zz : ¬ 9223372036854775807 < 1 + z.size := by omega
          have NN : Hid ((⟨#[35]⟩ : ByteArray) ++ z ++ ⟨#[10]⟩ = ofL (silL l ++ [10])) := by
            show _ = _
            have hl0 : ¬ l = [] := fun e => h0 (by rw [hn, e]; rfl)
            rw [hz]
            unfold silL
            rw [if_neg hl0]
            apply ByteArray.ext
            rw [ByteArray.data_append, ByteArray.data_append]
            simp [ofL]
          have HCV := Lib.hid cv
          clear cv hg hz hn hl
          go_wp2_with fail
          rw [HCV.out]
          go_wp2_with fail
          go_ret
          exact ⟨congrArg (fun s => Ending.returned (Value.string s)) (NN.out.trans NE.out), IE.out.kept⟩
    · have s1 : ¬ (j : Int) < (s.size : Int) := by omega
      have IE : Hid (SilI w wr u3 (silD s 60)) := by show SilI _ _ _ _; rw [← silD_end (by omega : s.size ≤ j) hj2]; exact IM.out
      clear IM
      obtain ⟨l, hl⟩ : ∃ l, l = silD s 60 := ⟨_, rfl⟩
      rw [← hl] at IE
      have NE : Hid (ofL (silL l ++ [10]) = ofL (silL (silD s 60) ++ [10])) := by show _ = _; rw [hl]
      obtain ⟨n, hn⟩ : ∃ n, n = l.length := ⟨_, rfl⟩
      obtain ⟨ba, bc, hbv⟩ := own_slg IE.out.own
      rw [← hn] at hbv
      subst hbv
      by_cases h0 : n = 0
      · subst h0
        obtain rfl : l = [] := List.length_eq_zero_iff.1 hn.symm
        clear hn hl
        go_wp2_with fail
        go_ret
        exact ⟨congrArg (fun s => Ending.returned (Value.string s)) NE.out, IE.out.kept⟩
      · have j3 : ¬ (n : Int) = 0 := by omega
        have hg := IE.out.own
        have CV : ∃ g, ba = some ⟨g, 0, none⟩ ∧ (Go.convert 68 9 (.slice (some ⟨g, 0, none⟩) n bc)).run Tryd.prog wr = .ok (.string (ofL l)) wr := by
          rcases hg.2 with ⟨e, h9⟩ | ⟨g, cap, cur, e, -⟩
          · omega
          · cases e
            refine ⟨g, rfl, ?_⟩
            exact run_convert_bytes_back (P := Tryd.prog) wr 68 9 5 ⟨g, 0, none⟩ bc l Tryd.underlying68 Tryd.underlying5 Tryd.underlying9 (fun j hj => by
              have h1 := World.ownsRow.cellAt hg j (by omega)
              have h2 : (⟨g, 0, none⟩ : Addr).add j = ⟨g, j, none⟩ := by simp [Addr.add]; exact fun h => h.symm
              rw [h2, h1]
              rw [Lib.byteCells, List.getElem?_map, List.getElem?_eq_getElem hj]; rfl)
        obtain ⟨g, rfl, cv⟩ := CV
        obtain ⟨z, hz⟩ : ∃ z, z = ofL l := ⟨_, rfl⟩
        rw [← hz] at cv
        have l60 : l.length ≤ 60 := L60.out l hl
        have zs : z.size ≤ 60 := by rw [hz, ofL_size]; exact l60
        have zz : ¬ 9223372036854775807 < 1 + z.size := by omega
        have NN : Hid ((⟨#[35]⟩ : ByteArray) ++ z ++ ⟨#[10]⟩ = ofL (silL l ++ [10])) := by
          show _ = _
          have hl0 : ¬ l = [] := fun e => h0 (by rw [hn, e]; rfl)
          rw [hz]
          unfold silL
          rw [if_neg hl0]
          apply ByteArray.ext
          rw [ByteArray.data_append, ByteArray.data_append]
          simp [ofL]
        have HCV := Lib.hid cv
        clear cv hg hz hn hl
        go_wp2_with fail
        rw [HCV.out]
        go_wp2_with fail
        go_ret
        exact ⟨congrArg (fun s => Ending.returned (Value.string s)) (NN.out.trans NE.out), IE.out.kept⟩
/-- An account without members or leader. -/
def bare (a : Acc) : Acc := ⟨a.name, ⟨#[]⟩, [], a.key⟩
theorem bare_form {a : Acc} (h : form a = true) : form (bare a) = true := by
  unfold form at h ⊢
  simp only [Bool.and_eq_true] at h
  obtain ⟨⟨⟨h1, h2⟩, h3⟩, h4⟩ := h
  show (isName a.name && leadOk ⟨#[]⟩ && [].all isName && isKey a.key) = true
  rw [h1, h4]
  rfl
theorem bare_fine {a : Acc} (h : form a = true) : Fine (.acc (bare a)) := ⟨bare_form h, rfl, rfl⟩
theorem bare_len {a : Acc} (h : Fit a) : (lineL (bare a)).length ≤ 67 := by
  have h1 := h.1
  have h2 := h.2.2.1
  have e : lineL (bare a) = dl a.name ++ (58 :: (58 :: (58 :: dl a.key))) := by simp [lineL, bare, Lib.join, dl]
  rw [e]
  simp only [List.length_append, List.length_cons, dl_length]
  omega
theorem bare_good {a : Acc} (h : form a = true) (hf : Fit a) : Good [bare a] := by
  refine ⟨fun x hx => ?_, fun k hk => ?_, fun x hx => ?_, ?_, by simp, fun x hx => ?_⟩
  · rw [List.mem_singleton] at hx; subst hx; exact bare_form h
  · obtain rfl : k = 0 := by simp at hk; omega
    rfl
  · rw [List.mem_singleton] at hx; subst hx; rfl
  · have := bare_len hf
    simp [textL]
    omega
  · rw [List.mem_singleton] at hx; subst hx; simp [bare]
theorem bare_rows {W : World} {R : Nat} (a : Acc) (h : W.heap[R]? = some (.cells #[.string a.name, .string ⟨#[]⟩, .slice none 0 0, .string a.key] 45 (0, 0))) : RowsA W (.slice (some ⟨R, 0, none⟩) 1 1) [(bare a, .slice none 0 0)] := by
  refine ⟨⟨rfl, Or.inr ⟨R, 1, _, rfl, Nat.zero_le _, h, Nat.le_refl _, by decide, rfl, rfl⟩⟩, fun x hx => ?_⟩
  rw [List.mem_singleton] at hx
  subst hx
  exact World.ownsRow_nil _ _ _ _
theorem print_bare {W : World} {R : Nat} (a : Acc) (h : W.heap[R]? = some (.cells #[.string a.name, .string ⟨#[]⟩, .slice none 0 0, .string a.key] 45 (0, 0))) (hf : form a = true) (ft : Fit a) :
    Calls Tryd.prog 9 #[.slice (some ⟨R, 0, none⟩) 1 1] W fun e w' => e = .returned (.tuple #[.string (ofL (textX [.acc (bare a)])), .int .i64 0]) ∧ Kept [] W w' :=
  Print_ok (L := [(bare a, .slice none 0 0)]) (bare_rows a h) (bare_good hf ft)
end Us
end Go.Proofs.YteeheapenfklcaaDoor
