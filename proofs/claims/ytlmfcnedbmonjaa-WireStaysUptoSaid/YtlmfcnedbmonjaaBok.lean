/- The law's book of lists that came out: where it lies; what owns does to it. -/
import Derived.Test.YtlmfcnedbmonjaaKpt
namespace Go.Proofs.Ytlmfcnedbmonjaa
set_option linter.unusedVariables false
open Go.RowKit

/-- The cells of a block of six. -/
theorem six {w : World} {p : Nat} {a b c d e f : Value} {t : TypeId} (h : w.heap[p]? = some (.cells #[a, b, c, d, e, f] t (0, 0))) :
    w.cell? ⟨p, 4, none⟩ = some e ∧ w.cell? ⟨p, 5, none⟩ = some f ∧ (∀ i, w.frozen? ⟨p, i, none⟩ = false) := by
  refine ⟨?_, ?_, fun i => ?_⟩
  · rw [cell_of_row w p 4 _ t (0, 0) h]; rfl
  · rw [cell_of_row w p 5 _ t (0, 0) h]; rfl
  · simp [World.frozen?, h]

/-- A book lies at block k: what it holds from before, the lists that came out since (fs), and what they were (ws). B: its blocks. -/
def Bk (w : World) (k : Nat) (B : List Nat) (l m hd th : Value) (fs ws : List Value) : Prop :=
  ∃ f u, w.heap[k]? = some (.cells #[l, m, hd, th, f, u] 46 (0, 0)) ∧ w.ownsRow 0 44 1 f fs.length fs ∧ w.ownsRow 0 44 1 u ws.length ws ∧ (∀ i, f.ownBlock = some i → u.ownBlock ≠ some i) ∧ B = k :: (f.ownBlock.toList ++ u.ownBlock.toList)

theorem Bk.lt {w : World} {k : Nat} {B : List Nat} {l m hd th : Value} {fs ws : List Value} (h : Bk w k B l m hd th fs ws) : ∀ i ∈ B, i < w.heap.size := by
  obtain ⟨f, u, h1, h2, h3, _, rfl⟩ := h
  intro i hi
  simp only [List.mem_cons, List.mem_append, Option.mem_toList] at hi
  rcases hi with rfl | hi | hi
  · exact block_lt h1
  · exact (h2.lt i hi).2
  · exact (h3.lt i hi).2
theorem Bk.kept {w w' : World} {k : Nat} {B T : List Nat} {l m hd th : Value} {fs ws : List Value} (h : Bk w k B l m hd th fs ws) (hk : Kept T w w') (hx : ∀ i ∈ B, i ∉ T) : Bk w' k B l m hd th fs ws := by
  obtain ⟨f, u, h1, h2, h3, h4, rfl⟩ := h
  exact ⟨f, u, by rw [hk.block k (block_lt h1) (hx k (by simp))]; exact h1, own_kept h2 hk (fun i e => hx i (by simp [e])), own_kept h3 hk (fun i e => hx i (by simp [e])), h4, rfl⟩

/-- A list more in the book's fifth field. -/
theorem Bk.pushF {wr W w1 : World} {k : Nat} {B : List Nat} {l m hd th f u v : Value} {fs ws : List Value} {g n cap : Nat}
    (hp : wr.heap[k]? = some (.cells #[l, m, hd, th, f, u] 46 (0, 0))) (hf : wr.ownsRow 0 44 1 f fs.length fs) (hu : wr.ownsRow 0 44 1 u ws.length ws) (hap : ∀ i, f.ownBlock = some i → u.ownBlock ≠ some i) (hB : B = k :: (f.ownBlock.toList ++ u.ownBlock.toList))
    (hW : Kept [] wr W) (hgrow : W.grownBy w1 f.ownBlock) (hown : w1.ownsRow 0 44 1 (.slice (some ⟨g, 0, none⟩) n cap) n (fs ++ [v])) (hm : n = (fs ++ [v]).length) (hat : f.ownBlock = some g ∨ g = W.heap.size) :
    w1.heap[k]? = some (.cells #[l, m, hd, th, f, u] 46 (0, 0)) ∧
    ∃ B', Bk (w1.setCell ⟨k, 4, none⟩ (.slice (some ⟨g, 0, none⟩) n cap)) k B' l m hd th (fs ++ [v]) ws ∧ Kept B wr (w1.setCell ⟨k, 4, none⟩ (.slice (some ⟨g, 0, none⟩) n cap)) ∧ (∀ i ∈ B', i ∈ B ∨ wr.heap.size ≤ i) := by
  have hpne : ∀ i, f.ownBlock = some i → i ≠ k := own_ne hf hp (by decide)
  have hW1 : Kept f.ownBlock.toList wr w1 := (hW.mono (T := f.ownBlock.toList) (fun i hi => by simp at hi)).grown hgrow (fun i hi => Or.inl (by rw [hi]; simp))
  have hp1 : w1.heap[k]? = some (.cells #[l, m, hd, th, f, u] 46 (0, 0)) := by
    rw [hW1.block k (block_lt hp) (fun hm => hpne k (by simpa using hm) rfl)]; exact hp
  have hu1 : w1.ownsRow 0 44 1 u ws.length ws := own_kept hu hW1 (fun i hi hm => hap i (by simpa using hm) hi)
  have hz := hW.size
  have hlu := fun i hi => (hu.lt i hi).2
  refine ⟨hp1, k :: ((some g).toList ++ u.ownBlock.toList), ⟨_, u, by rw [heap_set _ hp1]; rfl, ?_, own_set hu1 hp1 (by decide), fun i hi => ?_, by simp [Value.ownBlock]⟩, ?_, ?_⟩
  · rw [← hm]; exact own_set hown hp1 (by decide)
  · simp only [Value.ownBlock, Option.some.injEq] at hi
    intro hc
    rcases hat with q | q
    · exact hap g q (by rw [hi]; exact hc)
    · have := hlu i hc; omega
  · exact (hW1.mono (fun i hi => Or.inl (by rw [hB]; simp at hi ⊢; exact Or.inr (Or.inl hi)))).setCell (Or.inl (by rw [hB]; simp)) _
  · intro i hi
    simp only [List.mem_append, List.mem_cons, Option.mem_toList, Option.some.injEq] at hi
    rcases hi with rfl | hi | hi
    · left; rw [hB]; simp
    · subst hi
      rcases hat with q | q
      · left; rw [hB, q]; simp
      · right; omega
    · left; rw [hB, hi]; simp
/-- A list more in the book's sixth field. -/
theorem Bk.pushW {wr W w1 : World} {k : Nat} {B : List Nat} {l m hd th f u v : Value} {fs ws : List Value} {g n cap : Nat}
    (hp : wr.heap[k]? = some (.cells #[l, m, hd, th, f, u] 46 (0, 0))) (hf : wr.ownsRow 0 44 1 f fs.length fs) (hu : wr.ownsRow 0 44 1 u ws.length ws) (hap : ∀ i, f.ownBlock = some i → u.ownBlock ≠ some i) (hB : B = k :: (f.ownBlock.toList ++ u.ownBlock.toList))
    (hW : Kept [] wr W) (hgrow : W.grownBy w1 u.ownBlock) (hown : w1.ownsRow 0 44 1 (.slice (some ⟨g, 0, none⟩) n cap) n (ws ++ [v])) (hm : n = (ws ++ [v]).length) (hat : u.ownBlock = some g ∨ g = W.heap.size) :
    w1.heap[k]? = some (.cells #[l, m, hd, th, f, u] 46 (0, 0)) ∧
    ∃ B', Bk (w1.setCell ⟨k, 5, none⟩ (.slice (some ⟨g, 0, none⟩) n cap)) k B' l m hd th fs (ws ++ [v]) ∧ Kept B wr (w1.setCell ⟨k, 5, none⟩ (.slice (some ⟨g, 0, none⟩) n cap)) ∧ (∀ i ∈ B', i ∈ B ∨ wr.heap.size ≤ i) := by
  have hpne : ∀ i, u.ownBlock = some i → i ≠ k := own_ne hu hp (by decide)
  have hW1 : Kept u.ownBlock.toList wr w1 := (hW.mono (T := u.ownBlock.toList) (fun i hi => by simp at hi)).grown hgrow (fun i hi => Or.inl (by rw [hi]; simp))
  have hp1 : w1.heap[k]? = some (.cells #[l, m, hd, th, f, u] 46 (0, 0)) := by
    rw [hW1.block k (block_lt hp) (fun hm => hpne k (by simpa using hm) rfl)]; exact hp
  have hf1 : w1.ownsRow 0 44 1 f fs.length fs := own_kept hf hW1 (fun i hi hm => hap i hi (by simpa using hm))
  have hz := hW.size
  have hlf := fun i hi => (hf.lt i hi).2
  refine ⟨hp1, k :: (f.ownBlock.toList ++ (some g).toList), ⟨f, _, by rw [heap_set _ hp1]; rfl, own_set hf1 hp1 (by decide), ?_, fun i hi => ?_, by simp [Value.ownBlock]⟩, ?_, ?_⟩
  · rw [← hm]; exact own_set hown hp1 (by decide)
  · simp only [Value.ownBlock]
    intro hc
    rw [Option.some.injEq] at hc
    rcases hat with q | q
    · exact hap i hi (by rw [← hc]; exact q)
    · have := hlf i hi; omega
  · exact (hW1.mono (fun i hi => Or.inl (by rw [hB]; simp at hi ⊢; exact Or.inr (Or.inr hi)))).setCell (Or.inl (by rw [hB]; simp)) _
  · intro i hi
    simp only [List.mem_append, List.mem_cons, Option.mem_toList, Option.some.injEq] at hi
    rcases hi with rfl | hi | hi
    · left; rw [hB]; simp
    · left; rw [hB, hi]; simp
    · subst hi
      rcases hat with q | q
      · left; rw [hB, q]; simp
      · right; omega
theorem Bk.parts {w : World} {k : Nat} {B : List Nat} {l m hd th : Value} {fs ws : List Value} (h : Bk w k B l m hd th fs ws) : ∃ f u, Hid (w.heap[k]? = some (.cells #[l, m, hd, th, f, u] 46 (0, 0))) ∧ Hid (w.ownsRow 0 44 1 f fs.length fs) ∧ Hid (w.ownsRow 0 44 1 u ws.length ws) ∧ Hid (∀ i, f.ownBlock = some i → u.ownBlock ≠ some i) ∧ Hid (B = k :: (f.ownBlock.toList ++ u.ownBlock.toList)) ∧
    w.cell? ⟨k, 4, none⟩ = some f ∧ w.cell? ⟨k, 5, none⟩ = some u ∧ (∀ i, w.frozen? ⟨k, i, none⟩ = false) := by
  obtain ⟨f, u, h1, h2, h3, h4, h5⟩ := h
  obtain ⟨a, b, c⟩ := six h1
  exact ⟨f, u, h1, h2, h3, h4, h5, a, b, c⟩
theorem own_keptB {w w' : World} {T : List Nat} {base : Nat} {e : TypeId} {v : Value} {n : Nat} {xs : List Value} (h : w.ownsRow base e 1 v n xs) (hk : Kept T w w') (hd : ∀ k, v.ownBlock = some k → k ∉ T) : w'.ownsRow base e 1 v n xs := by
  refine ⟨h.1, ?_⟩
  rcases h.2 with hn | ⟨g, cap, cur, rfl, hb, hgg, rest⟩
  · exact .inl hn
  · exact .inr ⟨g, cap, cur, rfl, hb, by rw [hk.block g (block_lt hgg) (hd g rfl)]; exact hgg, rest⟩
theorem alloc_at {w : World} {n : Nat} (o : Obj) (h : n = w.heap.size) : (w.alloc o).heap[n]? = some o := by rw [h]; exact heap_alloc_new w o
theorem info44 : (Try.prog.info? 44).map (fun i => (i.zero, i.size, i.bytes)) = some (some (.slice none 0 0), 1, 24) := by kernel_rfl

namespace Bok
open Go.Proofs.Ytlmfcnedbmonjaa.Txt

/-- What owns leaves: a list and what it was are in the book. -/
def Owned (w : World) (k : Nat) (B : List Nat) (l m hd th : Value) (fs ws : List Value) (v : Value) (bs : List UInt8) (w' : World) : Prop :=
  ∃ B' u, Hid (Bk w' k B' l m hd th (fs ++ [v]) (ws ++ [u])) ∧ Kept B w w' ∧ (∀ i ∈ B', i ∈ B ∨ w.heap.size ≤ i) ∧ Hid (Wrt.Own w' w.heap.size u bs)

set_option maxHeartbeats 1000000 in
set_option maxRecDepth 100000 in
theorem owns_some (w : World) (k : Nat) (B : List Nat) (l m hd th : Value) (fs ws : List Value) (ad : Addr) (c : Nat) (bs : List UInt8) (hsz : bs.length ≤ 1152921504) (hfl : fs.length ≤ 1152921504) (hwl : ws.length ≤ 1152921504)
    (hcl : Hid (∀ j u, (bs.map bv)[j]? = some u → w.cell? (ad.add j) = some u)) (h : Hid (Bk w k B l m hd th fs ws)) :
    Calls Try.prog 65 #[.pointer (some ⟨k, 0, none⟩), .slice (some ad) bs.length c] w fun e w' => e = .returned (.tuple #[]) ∧ Owned w k B l m hd th fs ws (.slice (some ad) bs.length c) bs w' := by
  obtain ⟨i0, hi, hz0, hz1, hz2⟩ := info_parts Wrt.info5
  obtain ⟨j0, hj, jz0, jz1, jz2⟩ := info_parts info44
  go_enter Try.func65, Try.ntmps65
  go_wp2_with (at_builtin; refine wpList_append_own_at _ rfl (.tmp 5) (.tmp 6) 44 rfl w.heap.size 5 i0 (.int .u8 0) 1 1 Try.underlying44 hi hz0 hz1 hz2 rfl (by decide) _ 0 [] rfl (World.ownsRow_nil _ _ _ _) ad _ _ (bs.map bv) rfl (by simp) hcl.out (by intro u hu; obtain ⟨x, _, rfl⟩ := List.mem_map.1 hu; rfl) (by unfold maxLen; omega) (by omega) (by simp) ?_; intro v1 w1 hown hgrow _ hat; have R1 : Hid (w1.ownsRow w.heap.size 5 1 v1 bs.length (bs.map bv)) := (by simpa [Hid] using hown); have R2 : Hid (Kept [] w w1) := (Kept.refl [] w).grown hgrow (by intro k hk; cases hk); clear hown hgrow hat; refine Hid.out ?_)
  have hb1 : Hid (Bk w1 k B l m hd th fs ws) := h.out.kept R2.out (fun i _ hm => by simp at hm)
  obtain ⟨f, u, hp, hf, hu, hap, hB, c4, c5, fz⟩ := hb1.out.parts
  have f4 := fz 4
  refine Lib.hid ?_
  go_wp2_with (at_builtin; refine wpList_append_lies _ rfl (.tmp 12) (.tmp 14) 43 rfl 0 44 j0 (.slice none 0 0) 1 24 Try.underlying43 hj jz0 jz1 jz2 rfl (by decide) f _ _ rfl (hf.out.alloc _) ⟨w1.heap.size, 0, none⟩ 1 1 [.slice (some ad) bs.length c] rfl rfl (World.news_of_block (cs := #[.slice (some ad) bs.length c]) (by exact heap_alloc_new w1 _)) (by intro u hu; simp at hu; subst hu; rfl) (by decide) (by unfold maxLen; omega) (by omega) (Nat.zero_le _) _ rfl ?_; intro g cap w2 hown hgrow hat hlt; obtain ⟨hp1, B2, R3, R4, R5⟩ := Bk.pushF hp.out hf.out hu.out hap.out hB.out ((Kept.refl [] w1).alloc _) hgrow hown (by simp) hat; have g1 := (six hp1).1; have g2 := (six hp1).2.2 4; have R3 := Lib.hid R3; have R4 := Lib.hid R4; have R5 := Lib.hid R5; clear hown hgrow hat hp1 c4 c5 fz f4; refine Hid.out ?_)
  obtain ⟨f3, u3, hp3, hf3, hu3, hap3, hB3, e4, e5, fz3⟩ := R3.out.parts
  have f5 := fz3 5
  obtain ⟨va, vc, hv1⟩ := own_slice_b R1.out
  subst hv1
  refine Lib.hid ?_
  go_wp2_with (at_builtin; go_loud (refine wpList_append_lies _ rfl (.tmp 22) (.tmp 24) 43 rfl 0 44 j0 (.slice none 0 0) 1 24 Try.underlying43 hj jz0 jz1 jz2 rfl (by decide) u3 _ _ rfl (hu3.out.alloc _) ⟨w2.heap.size, 0, none⟩ 1 1 [.slice va bs.length vc] rfl rfl (World.news_of_block (cs := #[.slice va bs.length vc]) (by exact alloc_at _ (by simp [World.setCell]))) (by intro u hu; simp at hu; subst hu; rfl) (by decide) (by unfold maxLen; omega) (by omega) (Nat.zero_le _) _ rfl ?_; intro g' cap' w4 hown hgrow hat hlt; obtain ⟨hp1, B4, Q3, Q4, Q5⟩ := Bk.pushW hp3.out hf3.out hu3.out hap3.out hB3.out ((Kept.refl [] _).alloc _) hgrow hown (by simp) hat; have g3 := (six hp1).2.1; have g4 := (six hp1).2.2 5; have Q3 := Lib.hid Q3; have Q4 := Lib.hid Q4; have Q5 := Lib.hid Q5; have K4 := Lib.hid (((Kept.refl [] _).alloc _ : Kept [] _ _).mono (T := u3.ownBlock.toList) (fun i hi => by simp at hi) |>.grown hgrow (fun k hk => Or.inl (by rw [hk]; simp))); clear hown hgrow hat hp1 e4 e5 fz3 f5))
  go_end0
  have hz1 := R2.out.size
  have hz2 := R4.out.size
  refine ⟨rfl, B4, .slice va bs.length vc, Q3.out, ((R2.out.mono (T := B) (fun i hi => by simp at hi)).trans R4.out (fun i hi => Or.inl hi)).trans Q4.out (fun i hi => ?_), fun i hi => ?_, ?_⟩
  · rcases R5.out i hi with n | n
    · exact Or.inl n
    · right; omega
  · rcases Q5.out i hi with n | n
    · rcases R5.out i n with n | n
      · exact Or.inl n
      · right; omega
    · right; omega
  · have hlB := hb1.out.lt
    have hlB0 := h.out.lt
    have r1 := own_keptB R1.out R4.out (fun i hi hm => by have := (R1.out.lt i hi).1; have := hlB0 i hm; omega)
    exact own_keptB r1 Q4.out (fun i hi hm => by
      have h1 := R1.out.lt i hi
      rcases R5.out i hm with n | n
      · have := hlB0 i n; omega
      · omega)

set_option maxHeartbeats 1000000 in
set_option maxRecDepth 100000 in
theorem owns_none (w : World) (k : Nat) (B : List Nat) (l m hd th : Value) (fs ws : List Value) (hfl : fs.length ≤ 1152921504) (hwl : ws.length ≤ 1152921504) (h : Hid (Bk w k B l m hd th fs ws)) :
    Calls Try.prog 65 #[.pointer (some ⟨k, 0, none⟩), .slice none 0 0] w fun e w' => e = .returned (.tuple #[]) ∧ Owned w k B l m hd th fs ws (.slice none 0 0) [] w' := by
  obtain ⟨i0, hi, hz0, hz1, hz2⟩ := info_parts Wrt.info5
  obtain ⟨j0, hj, jz0, jz1, jz2⟩ := info_parts info44
  obtain ⟨f, u, hp, hf, hu, hap, hB, c4, c5, fz⟩ := h.out.parts
  have f4 := fz 4
  go_enter Try.func65, Try.ntmps65
  go_wp2_with (at_builtin; first | (refine wpList_append_own_none rfl (.tmp 5) (.tmp 6) 44 rfl w.heap.size 5 i0 1 Try.underlying44 hi _ 0 [] rfl (World.ownsRow_nil _ _ _ _) rfl ?_) | (refine wpList_append_lies _ rfl (.tmp 12) (.tmp 14) 43 rfl 0 44 j0 (.slice none 0 0) 1 24 Try.underlying43 hj jz0 jz1 jz2 rfl (by decide) f _ _ rfl (hf.out.alloc _) ⟨w.heap.size, 0, none⟩ 1 1 [.slice none 0 0] rfl rfl (World.news_of_block (cs := #[.slice none 0 0]) (by exact heap_alloc_new w _)) (by intro u hu; simp at hu; subst hu; rfl) (by decide) (by unfold maxLen; omega) (by omega) (Nat.zero_le _) _ rfl ?_; intro g cap w2 hown hgrow hat hlt; obtain ⟨hp1, B2, R3, R4, R5⟩ := Bk.pushF hp.out hf.out hu.out hap.out hB.out ((Kept.refl [] w).alloc _) hgrow hown (by simp) hat; have g1 := (six hp1).1; have g2 := (six hp1).2.2 4; have R3 := Lib.hid R3; have R4 := Lib.hid R4; have R5 := Lib.hid R5; clear hown hgrow hat hp1 c4 c5 fz f4; refine Hid.out ?_))
  obtain ⟨f3, u3, hp3, hf3, hu3, hap3, hB3, e4, e5, fz3⟩ := R3.out.parts
  have f5 := fz3 5
  refine Lib.hid ?_
  go_wp2_with (at_builtin; refine wpList_append_lies _ rfl (.tmp 22) (.tmp 24) 43 rfl 0 44 j0 (.slice none 0 0) 1 24 Try.underlying43 hj jz0 jz1 jz2 rfl (by decide) u3 _ _ rfl (hu3.out.alloc _) ⟨w2.heap.size, 0, none⟩ 1 1 [.slice none 0 0] rfl rfl (World.news_of_block (cs := #[.slice none 0 0]) (by exact alloc_at _ (by simp [World.setCell]))) (by intro u hu; simp at hu; subst hu; rfl) (by decide) (by unfold maxLen; omega) (by omega) (Nat.zero_le _) _ rfl ?_; intro g' cap' w4 hown hgrow hat hlt; obtain ⟨hp1, B4, Q3, Q4, Q5⟩ := Bk.pushW hp3.out hf3.out hu3.out hap3.out hB3.out ((Kept.refl [] _).alloc _) hgrow hown (by simp) hat; have g3 := (six hp1).2.1; have g4 := (six hp1).2.2 5; have Q3 := Lib.hid Q3; have Q4 := Lib.hid Q4; have Q5 := Lib.hid Q5; clear hown hgrow hat hp1 e4 e5 fz3 f5)
  go_end0
  have hz2 := R4.out.size
  refine ⟨rfl, B4, .slice none 0 0, Q3.out, R4.out.trans Q4.out R5.out, fun i hi => ?_, World.ownsRow_nil _ _ _ _⟩
  rcases Q5.out i hi with n | n
  · exact R5.out i n
  · right; omega

/-- owns. -/
theorem owns_any (w : World) (k : Nat) (B : List Nat) (l m hd th : Value) (fs ws : List Value) (v : Value) (bs : List UInt8) (hsz : bs.length ≤ 1152921504) (hfl : fs.length ≤ 1152921504) (hwl : ws.length ≤ 1152921504)
    (hv : Hid (Wrt.Own w 0 v bs)) (h : Hid (Bk w k B l m hd th fs ws)) :
    Calls Try.prog 65 #[.pointer (some ⟨k, 0, none⟩), v] w fun e w' => e = .returned (.tuple #[]) ∧ Owned w k B l m hd th fs ws v bs w' := by
  obtain ⟨a, c, rfl, hno, hcl⟩ := Src.of_own hv.out
  cases a with
  | none =>
    obtain ⟨rfl, rfl⟩ := hno rfl
    exact owns_none w k B l m hd th fs ws hfl hwl h
  | some ad => exact owns_some w k B l m hd th fs ws ad c bs hsz hfl hwl (hcl ad rfl).2 h
end Bok
end Go.Proofs.Ytlmfcnedbmonjaa
