/- Path names: a clean one is clean again. No program's run. -/
import Derived.Test.YtjdhgeikbkjnoaaDoorCln
namespace Go.Proofs.YtjdhgeikbkjnoaaDoor
set_option linter.unusedVariables false
open Go.RowKit Go.Shelf
namespace Nm
open Go.Proofs.YtjdhgeikbkjnoaaDoor.Utf Go.Proofs.YtjdhgeikbkjnoaaDoor.Txt Go.PlainAid

def toB (l : List UInt8) : ByteArray := ⟨l.toArray⟩
theorem dl_toB (l : List UInt8) : dl (toB l) = l := rfl
theorem toB_dl (x : ByteArray) : toB (dl x) = x := of_dl x
theorem dl_inj {x y : ByteArray} (h : dl x = dl y) : x = y := by rw [← toB_dl x, ← toB_dl y, h]
/-- A path name's parts. -/
def pt (s : ByteArray) : List ByteArray := (parts (dl s)).map toB
theorem pt_dl (s : ByteArray) : (pt s).map dl = parts (dl s) := by
  unfold pt
  rw [List.map_map]
  have : dl ∘ toB = id := by funext l; rfl
  rw [this, List.map_id]
theorem pt_of {s : ByteArray} {ps : List ByteArray} (h : ps.map dl = parts (dl s)) : ps = pt s := by
  unfold pt
  rw [← h, List.map_map]
  have : toB ∘ dl = id := by funext l; exact toB_dl l
  rw [this, List.map_id]

/-- `..` at the beginning alone, and only where it is not rooted. -/
def CL (r : Bool) (qs : List ByteArray) : Prop := ∃ a b, qs = a ++ b ∧ (∀ x ∈ a, dl x = [46, 46]) ∧ (∀ x ∈ b, dl x ≠ [46, 46]) ∧ (r = true → a = [])
theorem CL.nil (r : Bool) : CL r [] := ⟨[], [], rfl, fun x h => by simp at h, fun x h => by simp at h, fun _ => rfl⟩
theorem CL.stp {r : Bool} {l : List ByteArray} (h : CL r l) (x : ByteArray) : CL r (stp r l x) := by
  obtain ⟨a, b, rfl, ha, hb, hr⟩ := h
  by_cases hx : dl x = [46, 46]
  · unfold Nm.stp
    rw [if_pos hx]
    rcases List.eq_nil_or_concat b with rfl | ⟨b', y, rfl⟩
    · rcases List.eq_nil_or_concat a with rfl | ⟨a', y, rfl⟩
      · simp only [List.append_nil, List.getLast?_nil]
        cases r with
        | true => exact CL.nil _
        | false => exact ⟨[x], [], rfl, fun z hz => by simp at hz; rw [hz]; exact hx, fun z hz => by simp at hz, fun h => by cases h⟩
      · rw [List.concat_eq_append] at ha hr ⊢
        rw [List.append_nil, List.getLast?_concat]
        dsimp only
        rw [if_pos (ha y (by simp))]
        cases r with
        | true => exact absurd (hr rfl) (by simp)
        | false =>
          refine ⟨a' ++ [y] ++ [x], [], by simp, fun z hz => ?_, fun z hz => by simp at hz, fun h => by cases h⟩
          rcases List.mem_append.1 hz with q | q
          · exact ha z q
          · simp at q; rw [q]; exact hx
    · rw [List.concat_eq_append] at hb ⊢
      rw [← List.append_assoc, List.getLast?_concat]
      dsimp only
      rw [if_neg (hb y (by simp))]
      refine ⟨a, b', by simp, ha, fun z hz => hb z (by simp [hz]), hr⟩
  · unfold Nm.stp
    rw [if_neg hx]
    refine ⟨a, b ++ [x], by simp, ha, fun z hz => ?_, hr⟩
    rcases List.mem_append.1 hz with q | q
    · exact hb z q
    · simp at q; rw [q]; exact hx
theorem CL.foldl {r : Bool} (ps : List ByteArray) : ∀ {l}, CL r l → CL r (ps.foldl (Nm.stp r) l) := by
  induction ps with
  | nil => intro l h; exact h
  | cons x ps ih => intro l h; exact ih (h.stp x)
theorem CL.sho (r : Bool) (ps : List ByteArray) : CL r (sho r ps) := (CL.nil r).foldl ps
theorem CL.pre {r : Bool} {l : List ByteArray} {x : ByteArray} (h : CL r (l ++ [x])) : CL r l := by
  obtain ⟨a, b, e, ha, hb, hr⟩ := h
  rcases List.eq_nil_or_concat b with rfl | ⟨b', y, rfl⟩
  · rw [List.append_nil] at e
    subst e
    exact ⟨l, [], by simp, fun z hz => ha z (by simp [hz]), fun z hz => by simp at hz, fun h => absurd (hr h) (by simp)⟩
  · rw [List.concat_eq_append, ← List.append_assoc] at e
    have e1 := List.append_inj_left' e rfl
    subst e1
    exact ⟨a, b', rfl, ha, fun z hz => hb z (by simp [hz]), hr⟩
theorem stp_fix {r : Bool} {l : List ByteArray} {x : ByteArray} (h : CL r (l ++ [x])) : stp r l x = l ++ [x] := by
  unfold stp
  by_cases hx : dl x = [46, 46]
  · rw [if_pos hx]
    obtain ⟨a, b, e, ha, hb, hr⟩ := h
    rcases List.eq_nil_or_concat b with rfl | ⟨b', y, rfl⟩
    · rw [List.append_nil] at e
      subst e
      cases r with
      | true => exact absurd (hr rfl) (by simp)
      | false =>
        split
        · rename_i y hy
          rw [if_pos (ha y (by rw [List.mem_append]; exact Or.inl (List.mem_of_getLast? hy))), if_neg (by simp)]
        · rw [if_neg (by simp)]
    · rw [List.concat_eq_append, ← List.append_assoc] at e
      have e1 := List.append_inj_right' e rfl
      simp at e1
      subst e1
      exact absurd hx (hb x (by simp))
  · rw [if_neg hx]
theorem sho_fix_len {r : Bool} : ∀ (n : Nat) {qs : List ByteArray}, qs.length = n → CL r qs → sho r qs = qs
  | 0, qs, hn, h => by rw [List.eq_nil_of_length_eq_zero hn]; rfl
  | n + 1, qs, hn, h => by
    rcases List.eq_nil_or_concat qs with rfl | ⟨l, x, rfl⟩
    · rfl
    · rw [List.concat_eq_append] at h hn ⊢
      have ih := sho_fix_len n (by simpa using hn) h.pre
      unfold sho at ih ⊢
      rw [List.foldl_append, ih]
      exact stp_fix h
theorem sho_fix {r : Bool} {qs : List ByteArray} (h : CL r qs) : sho r qs = qs := sho_fix_len _ rfl h
theorem stp_mem {r : Bool} {l : List ByteArray} {x y : ByteArray} (h : y ∈ stp r l x) : y ∈ l ∨ y = x := by
  unfold stp at h
  split at h
  · split at h
    · split at h
      · split at h
        · exact Or.inl h
        · simpa using h
      · exact Or.inl ((List.dropLast_sublist _).subset h)
    · split at h
      · exact Or.inl h
      · simpa using h
  · simpa using h
theorem foldl_mem {r : Bool} (ps : List ByteArray) : ∀ {l : List ByteArray} {y : ByteArray}, y ∈ ps.foldl (stp r) l → y ∈ l ∨ y ∈ ps := by
  induction ps with
  | nil => intro l y h; exact Or.inl h
  | cons x ps ih =>
    intro l y h
    rcases ih h with q | q
    · rcases stp_mem q with q | q
      · exact Or.inl q
      · exact Or.inr (by simp [q])
    · exact Or.inr (by simp [q])
theorem sho_mem {r : Bool} {ps : List ByteArray} {y : ByteArray} (h : y ∈ sho r ps) : y ∈ ps := by
  rcases foldl_mem ps h with q | q
  · simp at q
  · exact q

/-- What a part looks like. -/
def Part (x : ByteArray) : Prop := keep (dl x) = true ∧ (47 : UInt8) ∉ dl x
theorem keep_iff (p : List UInt8) : keep p = true ↔ p ≠ [] ∧ p ≠ [46] := by
  unfold keep
  rw [Bool.not_eq_true', Bool.or_eq_false_iff, List.isEmpty_eq_false_iff, beq_eq_false_iff_ne]
theorem cut_app : ∀ (p l : List UInt8), (47 : UInt8) ∉ p → cut (p ++ 47 :: l) = p :: cut l
  | [], l, _ => by simp [cut]
  | c :: p, l, h => by
    have ih := cut_app p l (fun hm => h (by simp [hm]))
    have hc : c ≠ 47 := fun e => h (by simp [e])
    show cut (c :: (p ++ 47 :: l)) = _
    conv => lhs; unfold cut
    rw [if_neg hc, ih]
theorem cut_self : ∀ (p : List UInt8), (47 : UInt8) ∉ p → cut p = [p]
  | [], _ => rfl
  | c :: p, h => by
    have ih := cut_self p (fun hm => h (by simp [hm]))
    have hc : c ≠ 47 := fun e => h (by simp [e])
    unfold cut
    rw [if_neg hc, ih]
theorem join_cons2 (p q : List UInt8) (l : List (List UInt8)) : Lib.join (p :: q :: l) [47] = p ++ 47 :: Lib.join (q :: l) [47] := by
  rw [Lib.join_cons, Lib.join_cons]
  simp [Lib.joinTail]
theorem cut_join : ∀ (l : List (List UInt8)), l ≠ [] → (∀ p ∈ l, (47 : UInt8) ∉ p) → cut (Lib.join l [47]) = l
  | [], h, _ => absurd rfl h
  | [p], _, h => by rw [Lib.join_one]; exact cut_self p (h p (by simp))
  | p :: q :: l, _, h => by
    rw [join_cons2, cut_app p _ (h p (by simp)), cut_join (q :: l) (by simp) (fun z hz => h z (by simp [hz]))]
theorem dl_jin (ps : List ByteArray) : dl (jin ps) = Lib.join (ps.map dl) [47] := rfl
theorem filter_keep {ps : List ByteArray} (h : ∀ p ∈ ps, Part p) : (ps.map dl).filter keep = ps.map dl := by
  rw [List.filter_eq_self]
  intro a ha
  obtain ⟨x, hx, rfl⟩ := List.mem_map.1 ha
  exact (h x hx).1
theorem parts_join {ps : List ByteArray} (h : ∀ p ∈ ps, Part p) : parts (Lib.join (ps.map dl) [47]) = ps.map dl := by
  unfold parts
  by_cases h0 : ps = []
  · subst h0; rfl
  · rw [cut_join _ (by simpa using h0) (fun p hp => by obtain ⟨x, hx, rfl⟩ := List.mem_map.1 hp; exact (h x hx).2), filter_keep h]
theorem dl_app (a b : ByteArray) : dl (a ++ b) = dl a ++ dl b := by
  unfold dl
  simp
theorem parts_joi {r : Bool} {ps : List ByteArray} (h : ∀ p ∈ ps, Part p) : parts (dl (joi r ps)) = ps.map dl := by
  unfold joi
  cases r with
  | true =>
    rw [if_pos rfl, dl_app]
    have e : dl (⟨#[47]⟩ : ByteArray) ++ dl (jin ps) = 47 :: dl (jin ps) := rfl
    rw [e]
    have e2 : parts (47 :: dl (jin ps)) = parts (dl (jin ps)) := by
      unfold parts
      conv => lhs; unfold cut
      rw [if_pos rfl]
      rfl
    rw [e2, dl_jin, parts_join h]
  | false =>
    rw [if_neg (by simp)]
    split
    · rename_i h0
      rw [List.eq_nil_of_length_eq_zero h0]
      decide
    · rw [dl_jin, parts_join h]
theorem rooted_joi {r : Bool} {ps : List ByteArray} (h : ∀ p ∈ ps, Part p) : rooted (dl (joi r ps)) = r := by
  unfold joi
  cases r with
  | true =>
    rw [if_pos rfl, dl_app]
    have e : dl (⟨#[47]⟩ : ByteArray) ++ dl (jin ps) = 47 :: dl (jin ps) := rfl
    rw [e]
    simp [rooted, Lib.hasPrefix]
  | false =>
    rw [if_neg (by simp)]
    split
    · decide
    · rename_i h0
      rw [dl_jin]
      cases ps with
      | nil => simp at h0
      | cons p ps =>
        rw [List.map_cons, Lib.join_cons]
        have hp := h p (by simp)
        have hk := ((keep_iff _).1 hp.1).1
        cases hc : dl p with
        | nil => exact absurd hc hk
        | cons c l =>
          have : c ≠ 47 := fun e => hp.2 (by rw [hc, e]; simp)
          show List.isPrefixOf [47] (c :: (l ++ _)) = false
          have : (47 == c) = false := by rw [beq_eq_false_iff_ne]; exact fun e => this e.symm
          simp [List.isPrefixOf, this]
theorem part_of {l p : List UInt8} (h : p ∈ parts l) : keep p = true ∧ (47 : UInt8) ∉ p := by
  unfold parts at h
  rw [List.mem_filter] at h
  exact ⟨h.2, cut_no47 l p h.1⟩
theorem pt_part (s : ByteArray) : ∀ x ∈ pt s, Part x := by
  intro x hx
  have : dl x ∈ parts (dl s) := by rw [← pt_dl s]; exact List.mem_map.2 ⟨x, hx, rfl⟩
  exact part_of this
theorem pt_joi {r : Bool} {ps : List ByteArray} (h : ∀ p ∈ ps, Part p) : pt (joi r ps) = ps := (pt_of (by rw [parts_joi h])).symm
theorem okl_iff (s : ByteArray) : okl (dl s) = true ↔ ∀ x ∈ pt s, okp (dl x) = true := by
  unfold okl
  rw [← pt_dl s, List.all_map, List.all_eq_true]
  rfl
theorem okl_joi {r : Bool} {ps : List ByteArray} (h : ∀ p ∈ ps, Part p) (ho : ∀ p ∈ ps, okp (dl p) = true) : okl (dl (joi r ps)) = true := by
  rw [okl_iff, pt_joi h]
  exact ho

/-- The clean form. -/
def clf (s : ByteArray) : ByteArray := cln s (pt s)
theorem sho_part {r : Bool} {ps : List ByteArray} (h : ∀ p ∈ ps, Part p) : ∀ p ∈ sho r ps, Part p := fun p hp => h p (sho_mem hp)
theorem clf_rooted (s : ByteArray) : rooted (dl (clf s)) = rooted (dl s) := rooted_joi (sho_part (pt_part s))
theorem clf_pt (s : ByteArray) : pt (clf s) = sho (rooted (dl s)) (pt s) := pt_joi (sho_part (pt_part s))
theorem clf_okl {s : ByteArray} (h : okl (dl s) = true) : okl (dl (clf s)) = true :=
  okl_joi (sho_part (pt_part s)) (fun p hp => (okl_iff s).1 h p (sho_mem hp))
theorem clf_CL (s : ByteArray) : CL (rooted (dl (clf s))) (pt (clf s)) := by
  rw [clf_rooted, clf_pt]
  exact CL.sho _ _
theorem clf_clf (s : ByteArray) : clf (clf s) = clf s := by
  have e : clf (clf s) = joi (rooted (dl (clf s))) (sho (rooted (dl (clf s))) (pt (clf s))) := rfl
  rw [e, sho_fix (clf_CL s), clf_rooted, clf_pt]
  rfl
theorem clf_join (s : ByteArray) : joi (rooted (dl (clf s))) (pt (clf s)) = clf s := by
  have e : clf (clf s) = joi (rooted (dl (clf s))) (sho (rooted (dl (clf s))) (pt (clf s))) := rfl
  rw [sho_fix (clf_CL s), clf_clf] at e
  exact e.symm
/-- A clean name, written so. -/
theorem clf_of_clean {r : Bool} {ps : List ByteArray} (h : ∀ p ∈ ps, Part p) (hc : CL r ps) : clf (joi r ps) = joi r ps := by
  have e : clf (joi r ps) = joi (rooted (dl (joi r ps))) (sho (rooted (dl (joi r ps))) (pt (joi r ps))) := rfl
  rw [e, rooted_joi h, pt_joi h, sho_fix hc]
theorem clf_size (s : ByteArray) : (clf s).size ≤ s.size + 2 := by
  have h1 := jin_size (sho (rooted (dl s)) (pt s))
  have h2 := wt_sho (rooted (dl s)) (pt s)
  have h3 := wt_parts (dl s)
  rw [pt_dl] at h2
  rw [dl_length] at h3
  have h4 : ∀ r ps, (joi r ps).size ≤ (jin ps).size + 1 := by
    intro r ps
    unfold joi
    split
    · rw [ByteArray.size_append]
      show 1 + _ ≤ _
      omega
    · split
      · show 1 ≤ _
        omega
      · omega
  have h5 := h4 (rooted (dl s)) (sho (rooted (dl s)) (pt s))
  have e : clf s = joi (rooted (dl s)) (sho (rooted (dl s)) (pt s)) := rfl
  rw [e]
  omega
end Nm
end Go.Proofs.YtjdhgeikbkjnoaaDoor
