/- Under undoes joining, and joining undoes Under. No program's run. -/
import Derived.Test.YtjdhgeikbkjnoaaDoorUdw
import Derived.Test.YtjdhgeikbkjnoaaDoorRck
namespace Go.Proofs.YtjdhgeikbkjnoaaDoor
set_option linter.unusedVariables false
open Go.RowKit Go.Shelf
namespace Nm
open Go.Proofs.YtjdhgeikbkjnoaaDoor.Utf Go.Proofs.YtjdhgeikbkjnoaaDoor.Txt Go.PlainAid

theorem chk_facts {x : ByteArray} (h : chk x = true) : Part x ∧ okp (dl x) = true ∧ dl x ≠ [46, 46] := by
  have h' := h
  unfold chk at h
  have q := of_decide_eq_true h
  refine ⟨⟨(keep_iff _).2 ⟨q.1, q.2.1⟩, q.2.2.2.2.1⟩, ?_, q.2.2.1⟩
  unfold okp
  have e : (⟨(dl x).toArray⟩ : ByteArray) = x := of_dl x
  rw [e, h']
  simp
theorem CL.app {r : Bool} {qs bs : List ByteArray} (h : CL r qs) (hb : ∀ x ∈ bs, dl x ≠ [46, 46]) : CL r (qs ++ bs) := by
  obtain ⟨a, b, rfl, ha, hb', hr⟩ := h
  refine ⟨a, b ++ bs, by simp, ha, fun x hx => ?_, hr⟩
  rcases List.mem_append.1 hx with q | q
  · exact hb' x q
  · exact hb x q
theorem bgn_app (a b : List ByteArray) : bgn (a ++ b) a = true := by
  unfold bgn
  rw [decide_eq_true_eq]
  exact ⟨by simp, by simp⟩
theorem bgn_dd {bs : List ByteArray} (hb : ∀ x ∈ bs, dl x ≠ [46, 46]) : bgn bs [dd] = false := by
  unfold bgn
  rw [decide_eq_false_iff_not]
  rintro ⟨h1, h2⟩
  cases bs with
  | nil => simp at h1
  | cons x bs =>
    simp at h2
    exact hb x (by simp) (by rw [h2]; rfl)
theorem under_path {c : ByteArray} {bs : List ByteArray} (hc : ucl c = true) (hb : ∀ x ∈ bs, chk x = true) :
    und c (joi (rooted (dl c)) (pt c ++ bs)) = true ∧ udo c (joi (rooted (dl c)) (pt c ++ bs)) = joi false bs := by
  obtain ⟨ho, hcl⟩ := (ucl_iff c).1 hc
  have hP : ∀ x ∈ pt c ++ bs, Part x := fun x hx => (List.mem_append.1 hx).elim (pt_part c x) (fun q => (chk_facts (hb x q)).1)
  have hO : ∀ x ∈ pt c ++ bs, okp (dl x) = true := fun x hx => (List.mem_append.1 hx).elim ((okl_iff c).1 ho x) (fun q => (chk_facts (hb x q)).2.1)
  have hn : ∀ x ∈ bs, dl x ≠ [46, 46] := fun x q => (chk_facts (hb x q)).2.2
  have hCL : CL (rooted (dl c)) (pt c ++ bs) := CL.app (by have := clf_CL c; rw [hcl] at this; exact this) hn
  have hu : ucl (joi (rooted (dl c)) (pt c ++ bs)) = true := (ucl_iff _).2 ⟨okl_joi hP hO, clf_of_clean hP hCL⟩
  have hp : pt (joi (rooted (dl c)) (pt c ++ bs)) = pt c ++ bs := pt_joi hP
  have hr : rst c (joi (rooted (dl c)) (pt c ++ bs)) = bs := by unfold rst; rw [hp]; simp
  have hU : und c (joi (rooted (dl c)) (pt c ++ bs)) = true := by
    unfold und
    rw [hc, hu, rooted_joi hP, hp, bgn_app, hr, bgn_dd hn]
    simp
  refine ⟨hU, ?_⟩
  unfold udo
  rw [if_pos hU, hr]
theorem cut_47 (l : List UInt8) : cut (47 :: l) = [] :: cut l := by
  conv => lhs; unfold cut
  rw [if_pos rfl]
theorem cut_no {a : UInt8} {l p : List UInt8} {ps : List (List UInt8)} (h : a ≠ 47) (hl : cut l = p :: ps) : cut (a :: l) = (a :: p) :: ps := by
  conv => lhs; unfold cut
  rw [if_neg h, hl]
theorem cut_two : ∀ (l m : List UInt8), cut (l ++ 47 :: m) = cut l ++ cut m
  | [], m => by
    show cut (47 :: m) = _
    rw [cut_47]
    rfl
  | a :: l, m => by
    have ih := cut_two l m
    show cut (a :: (l ++ 47 :: m)) = _
    by_cases ha : a = 47
    · subst ha
      rw [cut_47, cut_47, ih]
      rfl
    · cases hl : cut l with
      | nil => exact absurd hl (cut_ne l)
      | cons p ps =>
        rw [hl] at ih
        rw [cut_no ha hl, cut_no ha (p := p) (ps := ps ++ cut m) (by rw [ih]; rfl)]
        rfl
theorem parts_two (l m : List UInt8) : parts (l ++ 47 :: m) = parts l ++ parts m := by
  unfold parts
  rw [cut_two, List.filter_append]
theorem rooted_joi_app {r : Bool} {ps : List ByteArray} (h : ∀ p ∈ ps, Part p) (m : List UInt8) : rooted (dl (joi r ps) ++ m) = r := by
  have h0 := rooted_joi (r := r) h
  have hne : dl (joi r ps) ≠ [] := by
    unfold joi
    cases r with
    | true => rw [if_pos rfl, dl_app]; intro e; cases e
    | false =>
      rw [if_neg (by simp)]
      split
      · intro e; cases e
      · rename_i hn
        cases ps with
        | nil => simp at hn
        | cons p ps =>
          rw [dl_jin, List.map_cons, Lib.join_cons]
          intro e
          have := ((keep_iff _).1 (h p (by simp)).1).1
          exact this (List.append_eq_nil_iff.1 e).1
  cases hd : dl (joi r ps) with
  | nil => exact absurd hd hne
  | cons a l =>
    rw [hd] at h0
    exact h0
theorem under_other {c o : ByteArray} (hu : und c o = true) : okl (dl ((c ++ ⟨#[47]⟩) ++ udo c o)) = true ∧ clf ((c ++ ⟨#[47]⟩) ++ udo c o) = o := by
  have hu' := hu
  unfold und at hu
  simp only [Bool.and_eq_true, beq_iff_eq, Bool.not_eq_true'] at hu
  obtain ⟨hc, ho, hr, hb, hd⟩ := hu
  obtain ⟨hco, hcc⟩ := (ucl_iff c).1 hc
  obtain ⟨hoo, hoc⟩ := (ucl_iff o).1 ho
  have hpre : pt c ++ rst c o = pt o := by
    unfold bgn at hb
    have := (of_decide_eq_true hb).2
    unfold rst
    conv => lhs; arg 1; rw [← this]
    exact List.take_append_drop _ _
  have hRP : ∀ x ∈ rst c o, Part x := fun x hx => pt_part o x (by rw [← hpre]; simp [hx])
  have hud : udo c o = joi false (rst c o) := by unfold udo; rw [if_pos hu']
  have hdl : dl ((c ++ ⟨#[47]⟩) ++ udo c o) = dl c ++ 47 :: dl (udo c o) := by
    rw [dl_app, dl_app, List.append_assoc]
    rfl
  have hpt : pt ((c ++ ⟨#[47]⟩) ++ udo c o) = pt o := by
    symm
    refine pt_of ?_
    rw [hdl, parts_two, hud, parts_joi hRP, ← pt_dl c, ← List.map_append, hpre]
  have hro : rooted (dl ((c ++ ⟨#[47]⟩) ++ udo c o)) = rooted (dl o) := by
    have hcj := clf_join c
    rw [hcc] at hcj
    rw [hdl, ← hcj, rooted_joi_app (pt_part c), hcj] at *
    exact hr
  refine ⟨by rw [okl_iff, hpt]; exact (okl_iff o).1 hoo, ?_⟩
  have e : clf ((c ++ ⟨#[47]⟩) ++ udo c o) = joi (rooted (dl ((c ++ ⟨#[47]⟩) ++ udo c o))) (sho (rooted (dl ((c ++ ⟨#[47]⟩) ++ udo c o))) (pt ((c ++ ⟨#[47]⟩) ++ udo c o))) := rfl
  rw [e, hro, hpt]
  exact hoc
theorem udo_none {c o : ByteArray} (h : und c o = false) : udo c o = ⟨#[]⟩ := by unfold udo; rw [h, if_neg (by simp)]
theorem udo_size (c o : ByteArray) : (udo c o).size ≤ o.size + 2 := by
  unfold udo
  split
  · have := jin_rst c o
    unfold joi
    rw [if_neg (by simp)]
    split
    · show 1 ≤ _; omega
    · omega
  · show 0 ≤ _; omega
theorem wt_wsum (l : List ByteArray) : wt (l.map dl) ≤ wsum l := by
  induction l with
  | nil => simp [wt, wsum]
  | cons x l ih => simp only [List.map_cons, wt, wsum, dl_length]; omega
theorem wsum_filter (f : ByteArray → Bool) (l : List ByteArray) : wsum (l.filter f) ≤ wsum l := by
  induction l with
  | nil => simp
  | cons x l ih =>
    rw [List.filter_cons]
    split
    · simp only [wsum]; omega
    · simp only [wsum]; omega
theorem path_size (c : ByteArray) (bs : List ByteArray) : (jin (pt c ++ bs)).size ≤ c.size + 1 + wsum bs := by
  have h1 := jin_size (pt c ++ bs)
  rw [List.map_append, wt_append, pt_dl] at h1
  have h2 := wt_parts (dl c)
  rw [dl_length] at h2
  have h3 := wt_wsum bs
  omega
theorem joi_size (r : Bool) (ps : List ByteArray) : (joi r ps).size ≤ (jin ps).size + 1 := by
  unfold joi
  split
  · rw [ByteArray.size_append]
    show 1 + _ ≤ _
    omega
  · split
    · show 1 ≤ _
      omega
    · omega
end Nm
end Go.Proofs.YtjdhgeikbkjnoaaDoor
