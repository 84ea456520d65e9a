/- names' words: what stands in quotes. -/
import Derived.Test.YtjdhgeikbkjnoaaDoorWdg
import Derived.Test.YtjdhgeikbkjnoaaDoorRpo
namespace Go.Proofs.YtjdhgeikbkjnoaaDoor
set_option linter.unusedVariables false
open Go.RowKit Go.Shelf
attribute [local go_sem] Oper.semAt_some
namespace Nm
open Go.Proofs.YtjdhgeikbkjnoaaDoor.Utf Go.Proofs.YtjdhgeikbkjnoaaDoor.Txt Go.PlainAid

theorem info_by : (Tryd.prog.info? 5).map (fun i => (i.zero, i.size, i.bytes)) = some (some (.int .u8 0), 1, 1) := by kernel_rfl
def bys (l : List UInt8) : List Value := l.map fun c => .int .u8 c.toNat
theorem bys_app (a b : List UInt8) : bys (a ++ b) = bys a ++ bys b := by simp [bys]
theorem bys_one (l : List UInt8) : ∀ u ∈ bys l, u.oneCell' = true := by
  intro u hu
  obtain ⟨c, _, rfl⟩ := List.mem_map.1 hu
  rfl
theorem bys_len (l : List UInt8) : (bys l).length = l.length := by simp [bys]
/-- Bytes as far as they are read. -/
structure Gat (w : World) (R : Nat) (v : Value) (xs : List UInt8) (s : ByteArray) (W : World) : Prop where
  row : W.ownsRow w.heap.size 5 1 v xs.length (bys xs)
  rd : Rdg W R s
  kept : Kept [R] w W
  lr : R < w.heap.size
section
variable {w W W1 : World} {R : Nat} {v v' : Value} {xs ys : List UInt8} {s t : ByteArray}
theorem Gat.call (h : Gat w R v xs s W) (k : Kept [R] W W1) (hr : Rdg W1 R t) : Gat w R v xs t W1 :=
  ⟨own_kept h.row k (fun b hb hm => own_ne h.row h.rd (by decide) b hb (by simpa using hm)), hr, h.kept.trans k (fun i hi => Or.inl hi), h.lr⟩
theorem Gat.pushed (h : Gat w R v xs s W) {m : Nat} {A : World} (ka : Kept [] W A) (hm : m = ys.length)
    (hown : W1.ownsRow w.heap.size 5 1 v' (xs.length + m) (bys xs ++ bys ys)) (hg : A.grownBy W1 v.ownBlock) : Gat w R v' (xs ++ ys) s W1 := by
  subst hm
  have kg : Kept v.ownBlock.toList A W1 := (Kept.refl _ _).grown hg (fun k e => Or.inl (by rw [e]; simp))
  have k1 : Kept v.ownBlock.toList W W1 := (ka.mono (fun i hi => by simp at hi)).trans kg (fun i hi => Or.inl hi)
  refine ⟨by rw [List.length_append, bys_app]; exact hown, (k1.block R (block_lt h.rd) (fun hm => ?_)).trans h.rd, h.kept.trans k1 (fun i hi => Or.inr ?_), h.lr⟩
  · exact own_ne h.row h.rd (by decide) R (by simpa using hm) rfl
  · exact (World.ownsRow.lt h.row i (by simpa using hi)).1
end
/-- How much is left. -/
def lft (w : World) (R : Nat) : Nat := match w.cell? ⟨R, 0, none⟩ with | some (.string s) => s.size | _ => 0
theorem lft_rd {w : World} {R : Nat} {s : ByteArray} (h : Rdg w R s) : lft w R = (dl s).length := by
  unfold lft
  rw [h.facts.1, dl_length]
def GotOut (w : World) (R : Nat) (b r : List UInt8) (e : Ending) (w' : World) : Prop := ∃ v s, e = .returned v ∧ Hid (Gat w R v b s w') ∧ Hid (dl s = r)

set_option maxHeartbeats 8000000 in
set_option maxRecDepth 100000 in
theorem quoted_any (w : World) (R : Nat) (s : ByteArray) (h : Rdg w R s) (b r : List UInt8) (hq : Qtd (dl s) b r) (hb : b.length ≤ 1073741824) :
    Calls Tryd.prog 62 #[.pointer (some ⟨R, 0, none⟩)] w (GotOut w R b r) := by
  obtain ⟨i0, hi0, hz00, hz01, hz02⟩ := info_parts info_by
  have SK := Lib.hid (fun w s h o => skips_any w R s o h)
  have ES := Lib.hid (fun w s h c m he => escaped_any w R s h c m he)
  have BY := Lib.hid (fun w s h c l h0 => byte_any w R s h c l h0)
  have G0 : Hid (Gat w R (.slice none 0 0) [] s w) := ⟨World.ownsRow_nil _ _ _ _, h, Kept.refl _ _, block_lt h⟩
  have Q0 := Lib.hid hq
  have HB := Lib.hid hb
  clear h hq hb
  go_enter Tryd.func62, Tryd.ntmps62
  go_wp2_with fail
  go_loopw [3] (fun bv wr => ∃ (s' : ByteArray) (xs ys : List UInt8) (v : Value), v = bv ∧ Hid (Gat w R v xs s' wr) ∧ Hid (Qtd (dl s') ys r) ∧ Hid (xs ++ ys = b)) (fun _ wr => lft wr R)
  case atStart => exact ⟨s, [], b, _, rfl, G0.out, Q0.out, rfl⟩
  case round =>
    obtain ⟨s', xs, ys, v, hv, hG, hQ, hX⟩ := hrel
    have hlen : xs.length + ys.length ≤ 1073741824 := by rw [← List.length_append, hX.out]; exact HB.out
    obtain ⟨va, vc, rfl⟩ := own_slice2 hG.out.row
    subst hv
    obtain ⟨q, hq⟩ : ∃ q, q = dl s' := ⟨_, rfl⟩
    have HQ := Lib.hid hq
    have hQ2 := hQ.out
    rw [← hq] at hQ2
    have SK1 := SK.out wr s' hG.out.rd ⟨#[39]⟩
    rw [← hq] at SK1
    have ML := lft_rd hG.out.rd
    rw [← hq] at ML
    have MLh := Lib.hid ML
    clear hq hQ ML
    cases hQ2 with
    | stop =>
      go_wp2_with fail
      have e1 : see ⟨#[39]⟩ (39 :: r) = true := by simp [see, dl, Lib.indexByte]
      rw [e1] at SK1
      refine SK1.mono ?_
      rintro e w2 ⟨rfl, k2, t, ht, hr⟩
      go_wp2_with fail
      go_ret
      have G2 := hG.out.call k2 hr
      have e2 : xs = b := by simpa using hX.out
      rw [e2] at G2
      exact ⟨_, t, rfl, by rw [e2]; exact G2, (by simpa using ht : dl t = r)⟩
    | esc l m _ b' c he hq =>
      have HE := Lib.hid he
      have HQ2 := Lib.hid hq
      clear he hq
      go_wp2_with fail
      have e1 : see ⟨#[39]⟩ (92 :: l) = false := by simp [see, dl, Lib.indexByte]
      rw [e1] at SK1
      refine SK1.mono ?_
      rintro e w2 ⟨rfl, k2, t, ht, hr⟩
      have G2 := Lib.hid (hG.out.call k2 hr)
      have T2 : Hid (dl t = 92 :: l) := (by simpa using ht : dl t = 92 :: l)
      clear SK1 k2 ht hr e1
      go_wp2_with fail
      have SK2 := SK.out w2 t G2.out.rd ⟨#[92]⟩
      rw [T2.out] at SK2
      have e1 : see ⟨#[92]⟩ (92 :: l) = true := by simp [see, dl, Lib.indexByte]
      rw [e1] at SK2
      refine SK2.mono ?_
      rintro e w3 ⟨rfl, k3, t3, ht3, hr3⟩
      have G3 := Lib.hid (G2.out.call k3 hr3)
      have T3 : Hid (dl t3 = l) := (by simpa using ht3 : dl t3 = l)
      clear SK2 k3 ht3 hr3 e1
      go_wp2_with fail
      refine (ES.out w3 t3 G3.out.rd c m (by rw [T3.out]; exact HE.out)).mono ?_
      rintro e w4 ⟨rfl, k4, t4, ht4, hr4⟩
      have G4 := Lib.hid (G3.out.call k4 hr4)
      have T4 := Lib.hid ht4
      have hz4 := G4.out.kept.size
      have hl2 : xs.length + 1 ≤ 1073741824 := by simp at hlen; omega
      clear k4 ht4 hr4
      go_wp2_with (at_builtin; refine wpList_append_src (w4.alloc (.cells #[.int .u8 c.toNat] 5)) rfl (.tmp 9) (.tmp 12) 67 rfl w.heap.size 5 i0 (.int .u8 0) 1 1 Tryd.underlying67 hi0 hz00 hz01 hz02 rfl (by decide) (.slice va xs.length vc) xs.length (bys xs) rfl (G4.out.row.alloc _) (.slice (some ⟨w4.heap.size, 0, none⟩) 1 1) 1 [.int .u8 c.toNat] rfl (Or.inr ⟨_, _, rfl, World.news_of_block (cs := #[.int .u8 c.toNat]) (by exact heap_alloc_new w4 _)⟩) rfl (by intro u hu; simp at hu; subst hu; rfl) (by unfold maxLen; omega) (by omega) (by have := G4.out.kept.size; simp; omega) ?_; intro v z1 hown hgrow hat; have G5 := Lib.hid (G4.out.pushed (ys := [c]) ((Kept.refl [] w4).alloc _) rfl hown hgrow); obtain ⟨qa, qc, rfl⟩ := own_slice2 hown; clear hown hgrow hat)
      go_roundw
      case rel => exact ⟨t4, xs ++ [c], b', _, by simp, G5.out, by rw [T4.out]; exact HQ2.out, by show xs ++ [c] ++ b' = b; have := hX.out; rw [← this]; simp⟩
      case measure =>
        have h1 := lft_rd G5.out.rd
        have h2 := MLh.out
        have h3 := HE.out.len
        rw [T4.out] at h1
        simp at h2
        omega
    | byte l _ b' c hc1 hc2 hq =>
      have HQ2 := Lib.hid hq
      have HC := Lib.hid (And.intro hc1 hc2)
      clear hq hc1 hc2
      go_wp2_with fail
      have e1 : see ⟨#[39]⟩ (c :: l) = false := by simp [see, dl, Lib.indexByte, Ne.symm HC.out.1]
      rw [e1] at SK1
      refine SK1.mono ?_
      rintro e w2 ⟨rfl, k2, t, ht, hr⟩
      have G2 := Lib.hid (hG.out.call k2 hr)
      have T2 : Hid (dl t = c :: l) := (by simpa using ht : dl t = c :: l)
      clear SK1 k2 ht hr e1
      go_wp2_with fail
      have SK2 := SK.out w2 t G2.out.rd ⟨#[92]⟩
      rw [T2.out] at SK2
      have e1 : see ⟨#[92]⟩ (c :: l) = false := by simp [see, dl, Lib.indexByte, Ne.symm HC.out.2]
      rw [e1] at SK2
      refine SK2.mono ?_
      rintro e w3 ⟨rfl, k3, t3, ht3, hr3⟩
      have G3 := Lib.hid (G2.out.call k3 hr3)
      have T3 : Hid (dl t3 = c :: l) := (by simpa using ht3 : dl t3 = c :: l)
      clear SK2 k3 ht3 hr3 e1
      go_wp2_with fail
      refine (BY.out w3 t3 G3.out.rd c l T3.out).mono ?_
      rintro e w4 ⟨rfl, k4, t4, ht4, hr4⟩
      have G4 := Lib.hid (G3.out.call k4 hr4)
      have T4 := Lib.hid ht4
      have hz4 := G4.out.kept.size
      have hl2 : xs.length + 1 ≤ 1073741824 := by simp at hlen; omega
      clear k4 ht4 hr4
      go_wp2_with (at_builtin; refine wpList_append_src (w4.alloc (.cells #[.int .u8 c.toNat] 5)) rfl (.tmp 14) (.tmp 17) 67 rfl w.heap.size 5 i0 (.int .u8 0) 1 1 Tryd.underlying67 hi0 hz00 hz01 hz02 rfl (by decide) (.slice va xs.length vc) xs.length (bys xs) rfl (G4.out.row.alloc _) (.slice (some ⟨w4.heap.size, 0, none⟩) 1 1) 1 [.int .u8 c.toNat] rfl (Or.inr ⟨_, _, rfl, World.news_of_block (cs := #[.int .u8 c.toNat]) (by exact heap_alloc_new w4 _)⟩) rfl (by intro u hu; simp at hu; subst hu; rfl) (by unfold maxLen; omega) (by omega) (by have := G4.out.kept.size; simp; omega) ?_; intro v z1 hown hgrow hat; have G5 := Lib.hid (G4.out.pushed (ys := [c]) ((Kept.refl [] w4).alloc _) rfl hown hgrow); obtain ⟨qa, qc, rfl⟩ := own_slice2 hown; clear hown hgrow hat)
      go_roundw
      case rel => exact ⟨t4, xs ++ [c], b', _, by simp, G5.out, by rw [T4.out]; exact HQ2.out, by show xs ++ [c] ++ b' = b; have := hX.out; rw [← this]; simp⟩
      case measure =>
        have h1 := lft_rd G5.out.rd
        have h2 := MLh.out
        rw [T4.out] at h1
        simp at h2
        omega
end Nm
end Go.Proofs.YtjdhgeikbkjnoaaDoor
