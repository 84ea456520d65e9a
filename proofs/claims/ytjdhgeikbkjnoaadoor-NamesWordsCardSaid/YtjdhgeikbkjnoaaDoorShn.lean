/- names' shortened walked; a list of texts that can be read. -/
import Derived.Test.YtjdhgeikbkjnoaaDoorSpw
import Derived.WalkSmall
import Derived.Laws.OwnMore
namespace Go.Proofs.YtjdhgeikbkjnoaaDoor
set_option linter.unusedVariables false
open Go.RowKit Go.Shelf
attribute [local go_sem] Oper.semAt_some
namespace Nm
open Go.Proofs.YtjdhgeikbkjnoaaDoor.Utf Go.Proofs.YtjdhgeikbkjnoaaDoor.Txt Go.PlainAid

/-- A list of texts that can be read. -/
def Lst (w : World) (v : Value) (xs : List ByteArray) : Prop :=
  ∃ a c, v = .slice a xs.length c ∧ xs.length ≤ c ∧ (xs = [] ∨ ∃ b o, a = some ⟨b, o, none⟩ ∧ b < w.heap.size ∧ ∀ j x, xs[j]? = some x → w.cell? ⟨b, o + j, none⟩ = some (.string x))
theorem Lst.kept {w w' : World} {v : Value} {xs : List ByteArray} {S : List Nat} (h : Lst w v xs) (k : Kept S w w') (hd : ∀ a n c, v = .slice (some a) n c → a.block ∉ S) : Lst w' v xs := by
  obtain ⟨a, c, rfl, hc, h⟩ := h
  refine ⟨a, c, rfl, hc, ?_⟩
  rcases h with h | ⟨b, o, rfl, hb, h⟩
  · exact Or.inl h
  · refine Or.inr ⟨b, o, rfl, by have := k.size; omega, fun j x hx => ?_⟩
    have := h j x hx
    have e := k.block b hb (hd _ _ _ rfl)
    unfold World.cell? at this ⊢
    rw [e]
    exact this
theorem Row.lst {w : World} {B : Nat} {v : Value} {xs : List ByteArray} (h : Row w B v xs) : Lst w v xs := by
  rcases h.2 with ⟨h1, h2⟩ | ⟨g, cap, cur, rfl, h1, h2, h3, h4, h5, h6⟩
  · refine ⟨none, 0, ?_, by omega, Or.inl ?_⟩
    · rw [h1, h2]
    · exact List.eq_nil_of_length_eq_zero h2
  · refine ⟨_, cap, rfl, h3, Or.inr ⟨g, 0, rfl, block_lt h2, fun j x hx => ?_⟩⟩
    have := World.ownsRow.cellAt h j (by have := (List.getElem?_eq_some_iff.1 hx).1; omega)
    rw [Nat.zero_add, this, List.getElem?_map, hx]
    rfl

/-- One part more. -/
def stp (r : Bool) (l : List ByteArray) (x : ByteArray) : List ByteArray :=
  if dl x = [46, 46] then
    match l.getLast? with
    | some y => if dl y = [46, 46] then (if r then l else l ++ [x]) else l.dropLast
    | none => if r then l else l ++ [x]
  else l ++ [x]
def sho (r : Bool) (ps : List ByteArray) : List ByteArray := ps.foldl (stp r) []
theorem stp_len (r : Bool) (l : List ByteArray) (x : ByteArray) : (stp r l x).length ≤ l.length + 1 := by
  unfold stp
  split
  · split
    · split
      · split <;> simp
      · simp; omega
    · split <;> simp
  · simp
theorem sho_snoc (r : Bool) (ps : List ByteArray) (k : Nat) (h : k < ps.length) : sho r (ps.take (k + 1)) = stp r (sho r (ps.take k)) ps[k] := by
  unfold sho
  rw [List.take_succ_eq_append_getElem h, List.foldl_append]
  rfl
theorem sho_len (r : Bool) (ps : List ByteArray) : ∀ k, k ≤ ps.length → (sho r (ps.take k)).length ≤ k
  | 0, _ => by simp [sho]
  | k + 1, h => by
    rw [sho_snoc r ps k (by omega)]
    have := stp_len r (sho r (ps.take k)) ps[k]
    have := sho_len r ps k (by omega)
    omega
theorem stp_add (r : Bool) (l : List ByteArray) (x : ByteArray) (h : (x.toList == [46, 46]) = false) : stp r l x = l ++ [x] := by
  rw [toList_dl] at h
  unfold stp
  rw [if_neg (by simpa using h)]
theorem stp_pop (r : Bool) (l : List ByteArray) (x y : ByteArray) (h : (x.toList == [46, 46]) = true) (hy : (y.toList == [46, 46]) = false) : stp r (l ++ [y]) x = l := by
  rw [toList_dl] at h hy
  unfold stp
  rw [if_pos (by simpa using h), List.getLast?_concat]
  dsimp only
  rw [if_neg (by simpa using hy)]
  simp
theorem stp_up (r : Bool) (l : List ByteArray) (x y : ByteArray) (h : (x.toList == [46, 46]) = true) (hy : (y.toList == [46, 46]) = true) : stp r (l ++ [y]) x = if r then l ++ [y] else l ++ [y] ++ [x] := by
  rw [toList_dl] at h hy
  unfold stp
  rw [if_pos (by simpa using h), List.getLast?_concat]
  dsimp only
  rw [if_pos (by simpa using hy)]
theorem stp_nil (r : Bool) (x : ByteArray) (h : (x.toList == [46, 46]) = true) : stp r [] x = if r then [] else [x] := by
  rw [toList_dl] at h
  unfold stp
  rw [if_pos (by simpa using h)]
  rfl

/-- A text more. -/
theorem row_push {A W w1 : World} {B : Nat} {pv pv' : Value} {xs : List ByteArray} {x : ByteArray} {n : Nat} (h : Row A B pv xs) (hB : W.heap.size ≤ B) (k : Kept [] W A) (hn : n = xs.length)
    (hown : w1.ownsRow B 9 1 pv' (n + 1) (xs.map sv ++ [sv x])) (hg : (A.alloc (.cells #[sv x] 9)).grownBy w1 pv.ownBlock) : Row w1 B pv' (xs ++ [x]) ∧ Kept [] W w1 := by
  subst hn
  refine ⟨by unfold Row; rw [List.length_append, List.map_append]; exact hown, (k.alloc _).grown hg (fun b e => ?_)⟩
  right
  have := World.ownsRow.lt h b e
  omega
theorem row_pop {W : World} {B g cap : Nat} {xs : List ByteArray} {y : ByteArray} (h : Row W B (.slice (some ⟨g, 0, none⟩) (xs.length + 1) cap) (xs ++ [y])) : Row W B (.slice (some ⟨g, 0, none⟩) xs.length cap) xs := by
  unfold Row at h ⊢
  rw [List.length_append, List.map_append] at h
  exact ownsRow_pop (by simp) h
theorem row_at {W : World} {B : Nat} {v : Value} {xs : List ByteArray} (h : Row W B v xs) (h0 : xs ≠ []) : ∃ g cap, v = .slice (some ⟨g, 0, none⟩) xs.length cap ∧ xs.length ≤ cap ∧ cap ≤ maxLen ∧ g < W.heap.size ∧ ∀ j x, xs[j]? = some x → W.cell? ⟨g, j, none⟩ = some (.string x) := by
  rcases h.2 with ⟨h1, h2⟩ | ⟨g, cap, cur, rfl, h1, h2, h3, h4, h5, h6⟩
  · exact absurd (List.eq_nil_of_length_eq_zero h2) h0
  · refine ⟨g, cap, rfl, h3, h4, block_lt h2, fun j x hx => ?_⟩
    have := World.ownsRow.cellAt h j (by have := (List.getElem?_eq_some_iff.1 hx).1; omega)
    rw [this, List.getElem?_map, hx]
    rfl

def ShnOut (w : World) (r : Bool) (ps : List ByteArray) (e : Ending) (w' : World) : Prop :=
  ∃ v, e = .returned (.agg #[.bool r, v]) ∧ Hid (Row w' w.heap.size v (sho r ps)) ∧ Hid (Kept [] w w')

set_option maxHeartbeats 8000000 in
set_option maxRecDepth 100000 in
theorem shortened_any (w : World) (r : Bool) (pv : Value) (ps : List ByteArray) (hp : Lst w pv ps) (hl : ps.length ≤ 1073741825) :
    Calls Tryd.prog 25 #[.agg #[.bool r, pv]] w (ShnOut w r ps) := by
  obtain ⟨i0, hi0, hz00, hz01, hz02⟩ := info_parts info_s
  obtain ⟨pa, pc, rfl, hpc, hpp⟩ := hp
  have HPP := Lib.hid hpp
  clear hpp
  go_enter Tryd.func25, Tryd.ntmps25
  go_wp2_with fail
  obtain ⟨w1, hw1⟩ : ∃ w1, w1 = (w.alloc (.cells #[.bool r, .slice pa ps.length pc] 28)).alloc (.cells #[.bool false, .slice none 0 0] 28) := ⟨_, rfl⟩
  obtain ⟨R2, hR2⟩ : ∃ R, R = w.heap.size + 1 := ⟨_, rfl⟩
  obtain ⟨R1, hR1⟩ : ∃ R, R = w.heap.size := ⟨_, rfl⟩
  have k1 : Kept [] w w1 := by rw [hw1]; exact ((Kept.refl _ _).alloc _).alloc _
  have hz1 : w1.heap.size = w.heap.size + 2 := by rw [hw1]; simp
  have b1 : w1.heap[R1]? = some (.cells #[.bool r, .slice pa ps.length pc] 28 (0, 0)) := by
    rw [hw1, hR1]
    exact (Below.heap_alloc _ _ _ (by simp)).trans (heap_alloc_new w _)
  have b2 : w1.heap[R2]? = some (.cells #[.bool false, .slice none 0 0] 28 (0, 0)) := by
    rw [hw1, hR2]
    have := heap_alloc_new (w.alloc (.cells #[.bool r, .slice pa ps.length pc] 28)) (.cells #[.bool false, .slice none 0 0] 28)
    rwa [World.size_alloc] at this
  rw [← hw1, ← hR2, ← hR1]
  have LS : Hid (Lst w1 (.slice pa ps.length pc) ps) := Lst.kept ⟨pa, pc, rfl, hpc, HPP.out⟩ k1 (fun _ _ _ _ hm => by simp at hm)
  have PZ := Lib.hid (And.intro hR1 (And.intro hR2 hz1))
  have K1 := Lib.hid k1
  have B1h := Lib.hid b1
  have B2h := Lib.hid b2
  have R0 : Hid (Row w1 w1.heap.size (.slice none 0 0) (sho r (ps.take 0))) := by exact World.ownsRow_nil _ _ _ _
  clear hw1 hR1 hR2 hz1 k1 b1 b2
  go_loopw [3, 10] (fun lv iv wr => ∃ (k : Nat) (lv2 : Value), lv2 = lv ∧ iv = .int .i64 k ∧ k ≤ ps.length ∧ Hid (Row wr w1.heap.size lv2 (sho r (ps.take k))) ∧ Hid (Kept [] w1 wr)) (fun _ iv _ => ps.length - (intOf iv).toNat)
  case atStart => exact ⟨0, _, rfl, rfl, by omega, R0, Kept.refl _ _⟩
  case round =>
    clear R0
    obtain ⟨k, lv, rfl, rfl, hk, HR, HK⟩ := hrel
    have hsl := sho_len r ps k hk
    obtain ⟨xs, hxs⟩ : ∃ xs, xs = sho r (ps.take k) := ⟨_, rfl⟩
    rw [← hxs] at HR hsl
    obtain ⟨la, lc, rfl⟩ := own_slice HR.out
    by_cases hlt : k < ps.length
    · have j1 : (k : Int) < (ps.length : Int) := by omega
      obtain ⟨x, hx⟩ : ∃ x, x = ps[k] := ⟨_, rfl⟩
      have SN := sho_snoc r ps k hlt
      rw [← hx, ← hxs] at SN
      have SNh := Lib.hid SN
      have HXS := Lib.hid hxs
      have LW : Lst wr (.slice pa ps.length pc) ps := Lst.kept LS.out HK.out (fun _ _ _ _ hm => by simp at hm)
      obtain ⟨pa', pc', e, -, hh⟩ := LW
      cases e
      rcases hh with hh | ⟨b, o, rfl, hb, hh⟩
      · rw [hh] at hlt; simp at hlt
      have cx : wr.cell? ⟨b, o + k, none⟩ = some (.string x) := hh k x (by rw [List.getElem?_eq_getElem hlt, hx])
      clear hh hx hxs SN
      have c1 : wr.cell? ⟨R1, 0, none⟩ = some (.bool r) := by rw [cell_of_row wr R1 0 _ _ (0, 0) ((HK.out.block _ (block_lt B1h.out) (by simp)).trans B1h.out)]; rfl
      have c1 : wr.cell? ⟨R1, 0, none⟩ = some (.bool r) := by rw [cell_of_row wr R1 0 _ _ (0, 0) ((HK.out.block _ (block_lt B1h.out) (by simp)).trans B1h.out)]; rfl
      have c1 : wr.cell? ⟨R1, 0, none⟩ = some (.bool r) := by rw [cell_of_row wr R1 0 _ _ (0, 0) ((HK.out.block _ (block_lt B1h.out) (by simp)).trans B1h.out)]; rfl
      have c1 : wr.cell? ⟨R1, 0, none⟩ = some (.bool r) := by rw [cell_of_row wr R1 0 _ _ (0, 0) ((HK.out.block _ (block_lt B1h.out) (by simp)).trans B1h.out)]; rfl
      have c1 : wr.cell? ⟨R1, 0, none⟩ = some (.bool r) := by rw [cell_of_row wr R1 0 _ _ (0, 0) ((HK.out.block _ (block_lt B1h.out) (by simp)).trans B1h.out)]; rfl
      by_cases hu : (x.toList == [46, 46]) = true
      · rcases List.eq_nil_or_concat xs with h0 | ⟨ys, y, hy⟩
        · have hx0 : xs.length = 0 := by rw [h0]; rfl
          have ST0 := stp_nil r x hu
          rw [← h0] at ST0
          clear h0
          cases r with
          | true =>
            have ST : Hid (stp true xs x = xs) := ST0
            clear ST0
            go_wp2_with fail
            go_roundw
            case rel =>
              refine ⟨k + 1, _, rfl, by go_num, by omega, ?_, HK⟩
              rw [SNh.out, ST.out]
              exact HR.out
            case measure => simp [intOf]; omega
          | false =>
            have ST : Hid (stp false xs x = xs ++ [x]) := by
              have e : xs = [] := List.eq_nil_of_length_eq_zero hx0
              rw [e] at ST0 ⊢
              exact ST0
            clear ST0
            go_wp2_with (at_builtin; refine wpList_append_src (wr.alloc (.cells #[.string x] 9)) rfl (.tmp 41) (.tmp 43) 26 rfl w1.heap.size 9 i0 (.string ⟨#[]⟩) 1 16 Tryd.underlying26 hi0 hz00 hz01 hz02 rfl (by decide) (.slice la xs.length lc) xs.length (xs.map sv) rfl (HR.out.alloc _) (.slice (some ⟨wr.heap.size, 0, none⟩) 1 1) 1 [.string x] rfl (Or.inr ⟨_, _, rfl, World.news_of_block (cs := #[.string x]) (by exact heap_alloc_new wr _)⟩) rfl (by intro u hu; simp at hu; subst hu; rfl) (by unfold maxLen; omega) (by omega) (by have := HK.out.size; simp; omega) ?_; intro v2 w6 hown2 hgrow2 hat2; obtain ⟨qa, qc, rfl⟩ := own_slice hown2; have SI := Lib.hid (row_push HR.out (Nat.le_refl _) HK.out rfl hown2 hgrow2); clear hown2 hgrow2 hat2)
            go_roundw
            case rel =>
              refine ⟨k + 1, _, rfl, by go_num, by omega, ?_, SI.out.2⟩
              rw [SNh.out, ST.out]
              have h := SI.out.1
              rw [hx0] at h
              exact h
            case measure => simp [intOf]; omega
        · rw [List.concat_eq_append] at hy
          have hx1 : xs.length = ys.length + 1 := by rw [hy]; simp
          have hne : xs ≠ [] := by rw [hy]; simp
          obtain ⟨g, cap, e, hcap, hcm, hg, hcc⟩ := row_at HR.out hne
          cases e
          have cy : wr.cell? ⟨g, ys.length, none⟩ = some (.string y) := hcc _ _ (by rw [hy]; simp)
          clear hcc
          have HR0 := HR
          by_cases hyu : (y.toList == [46, 46]) = true
          · have ST0 := stp_up r ys x y hu hyu
            rw [← hy] at ST0
            clear hne
            rw [hx1] at hsl ⊢
            cases r with
            | true =>
              have ST : Hid (stp true xs x = xs) := ST0
              have HX1 := Lib.hid hx1
              clear ST0 hx1 hcap hy
              go_wp2_with fail
              go_roundw
              case rel =>
                refine ⟨k + 1, _, rfl, by go_num, by omega, ?_, HK⟩
                rw [SNh.out, ST.out, ← HX1.out]
                exact HR.out
              case measure => simp [intOf]; omega
            | false =>
              have ST : Hid (stp false xs x = xs ++ [x]) := ST0
              have HX1 := Lib.hid hx1
              have HR' : Hid (wr.ownsRow w1.heap.size 9 1 (.slice (some ⟨g, 0, none⟩) (ys.length + 1) lc) (ys.length + 1) (xs.map sv)) := by
                rw [← hx1]
                exact HR.out
              clear ST0 hx1 hcap hy
              go_wp2_with (at_builtin; refine wpList_append_src (wr.alloc (.cells #[.string x] 9)) rfl (.tmp 41) (.tmp 43) 26 rfl w1.heap.size 9 i0 (.string ⟨#[]⟩) 1 16 Tryd.underlying26 hi0 hz00 hz01 hz02 rfl (by decide) (.slice (some ⟨g, 0, none⟩) (ys.length + 1) lc) (ys.length + 1) (xs.map sv) rfl (HR'.out.alloc _) (.slice (some ⟨wr.heap.size, 0, none⟩) 1 1) 1 [.string x] rfl (Or.inr ⟨_, _, rfl, World.news_of_block (cs := #[.string x]) (by exact heap_alloc_new wr _)⟩) rfl (by intro u hu; simp at hu; subst hu; rfl) (by unfold maxLen; omega) (by omega) (by have := HK.out.size; simp; omega) ?_; intro v2 w6 hown2 hgrow2 hat2; obtain ⟨qa, qc, rfl⟩ := own_slice hown2; have SI := Lib.hid (row_push HR.out (Nat.le_refl _) HK.out HX1.out.symm hown2 hgrow2); clear hown2 hgrow2 hat2)
              go_roundw
              case rel =>
                refine ⟨k + 1, _, rfl, by go_num, by omega, ?_, SI.out.2⟩
                rw [SNh.out, ST.out]
                exact SI.out.1
              case measure => simp [intOf]; omega
          · have hyu' : (y.toList == [46, 46]) = false := by simpa using hyu
            have ST0 := stp_pop r ys x y hu hyu'
            rw [← hy] at ST0
            have ST := Lib.hid ST0
            have RP : Hid (Row wr w1.heap.size (.slice (some ⟨g, 0, none⟩) ys.length lc) ys) := row_pop (by rw [hx1, hy] at HR; exact HR.out)
            have HX1 := Lib.hid hx1
            rw [hx1] at hsl ⊢
            have hcap2 : ys.length ≤ lc := by omega
            clear hyu ST0 hy hne hx1 hcap
            go_wp2_with fail
            go_roundw
            case rel =>
              refine ⟨k + 1, _, rfl, by go_num, by omega, ?_, HK⟩
              rw [SNh.out, ST.out]
              exact RP.out
            case measure => simp [intOf]; omega
      · have hu' : (x.toList == [46, 46]) = false := by simpa using hu
        clear hu
        have ST := Lib.hid (stp_add r xs x hu')
        go_wp2_with (at_builtin; refine wpList_append_src (wr.alloc (.cells #[.string x] 9)) rfl (.tmp 20) (.tmp 22) 26 rfl w1.heap.size 9 i0 (.string ⟨#[]⟩) 1 16 Tryd.underlying26 hi0 hz00 hz01 hz02 rfl (by decide) (.slice la xs.length lc) xs.length (xs.map sv) rfl (HR.out.alloc _) (.slice (some ⟨wr.heap.size, 0, none⟩) 1 1) 1 [.string x] rfl (Or.inr ⟨_, _, rfl, World.news_of_block (cs := #[.string x]) (by exact heap_alloc_new wr _)⟩) rfl (by intro u hu; simp at hu; subst hu; rfl) (by unfold maxLen; omega) (by omega) (by have := HK.out.size; simp; omega) ?_; intro v2 w6 hown2 hgrow2 hat2; obtain ⟨qa, qc, rfl⟩ := own_slice hown2; have SI := Lib.hid (row_push HR.out (Nat.le_refl _) HK.out rfl hown2 hgrow2); clear hown2 hgrow2 hat2)
        go_roundw
        case rel =>
          refine ⟨k + 1, _, rfl, by go_num, by omega, ?_, SI.out.2⟩
          rw [SNh.out, ST.out]
          exact SI.out.1
        case measure => simp [intOf]; omega
    · have j1 : ¬ (k : Int) < (ps.length : Int) := by omega
      have e0 : ps.take k = ps := List.take_of_length_le (by omega)
      have c1 : wr.cell? ⟨R1, 0, none⟩ = some (.bool r) := by rw [cell_of_row wr R1 0 _ _ (0, 0) ((HK.out.block _ (block_lt B1h.out) (by simp)).trans B1h.out)]; rfl
      have l2 := (HK.out.block _ (block_lt B2h.out) (by simp)).trans B2h.out
      have c20 : wr.cell? ⟨R2, 0, none⟩ = some (.bool false) := by rw [cell_of_row wr R2 0 _ _ (0, 0) l2]; rfl
      have c21 : wr.cell? ⟨R2, 1, none⟩ = some (.slice none 0 0) := by rw [cell_of_row wr R2 1 _ _ (0, 0) l2]; rfl
      have f2 : ∀ i, wr.frozen? ⟨R2, i, none⟩ = false := fun i => by simp [World.frozen?, l2]
      have L2h := Lib.hid l2
      have HXS := Lib.hid hxs
      clear hxs l2
      go_wp2_with fail
      clear c1 c20 c21 f2
      obtain ⟨WF, hWF⟩ : ∃ WF, WF = (wr.setCell ⟨R2, 0, none⟩ (.bool r)).setCell ⟨R2, 1, none⟩ (.slice la xs.length lc) := ⟨_, rfl⟩
      obtain ⟨p1, p2, p3⟩ := PZ.out
      have kW : Kept [R2] wr WF := by
        rw [hWF]
        exact ((Kept.refl _ wr).setCell (p := ⟨R2, 0, none⟩) (Or.inl (by simp)) _).setCell (p := ⟨R2, 1, none⟩) (Or.inl (by simp)) _
      have e2 : WF.heap[R2]? = some (.cells #[.bool r, .slice la xs.length lc] 28 (0, 0)) := by
        rw [hWF]
        simpa using heap_set (i := 1) (Value.slice la xs.length lc) (heap_set (i := 0) (Value.bool r) L2h.out)
      have c20 : WF.cell? ⟨R2, 0, none⟩ = some (.bool r) := by rw [cell_of_row WF R2 0 _ _ (0, 0) e2]; rfl
      have c21 : WF.cell? ⟨R2, 1, none⟩ = some (.slice la xs.length lc) := by rw [cell_of_row WF R2 1 _ _ (0, 0) e2]; rfl
      have HF : Row WF w.heap.size (.slice la xs.length lc) (sho r ps) := by
        have h := HR.out.kept kW (fun b hb hm => by
          have := (World.ownsRow.lt HR.out b hb).1
          simp at hm
          omega)
        have e := HXS.out
        rw [e0] at e
        rw [← e]
        exact World.ownsRow.mono h (by omega)
      have HKF : Kept [] w WF := (K1.out.trans HK.out (fun i hi => by simp at hi)).trans kW (fun i hi => by simp at hi; right; omega)
      have HFh := Lib.hid HF
      have HKh := Lib.hid HKF
      rw [← hWF]
      clear hWF HF HKF e2 kW p1 p2 p3
      refine ⟨rfl, .agg #[.bool r, .slice la xs.length lc], ?_, ⟨_, rfl, HFh, HKh⟩⟩
      simp [results, Tryd.f25, go_sem, c20, c21]
end Nm
end Go.Proofs.YtjdhgeikbkjnoaaDoor
