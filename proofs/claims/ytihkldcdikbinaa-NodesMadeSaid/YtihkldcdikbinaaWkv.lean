/- What the law's works does, call by call; that it is true. -/
import Derived.Test.YtihkldcdikbinaaWkw
namespace Go.Proofs.Ytihkldcdikbinaa
set_option linter.unusedVariables false
open Go.RowKit
namespace Nd
open Go.Proofs.Ytihkldcdikbinaa.Utf Go.Proofs.Ytihkldcdikbinaa.Txt Go.PlainAid Go.Proofs.Ytihkldcdikbinaa.Mpf

section
variable {w W : World} {p bn bc : Nat} {ps : Value} {b m b2 m2 b3 m3 : Nat} {ks : Value} {d3 : Is} {nn : Nat} {gg : Nat → Option (List UInt8)}
theorem w_do1 (h : S1 w W p bn bc ps b m) : Calls Try.prog 22 #[.pointer (some ⟨p, 0, none⟩), .agg (opL o1).toArray] W fun e W' => e = .returned (.tuple #[.int .u64 2, .int .i64 0]) ∧ ∃ ps' b2 m2, S2 w W' p bn bc ps' b b2 m2 := by
  refine (Do_make_ok W p 3 2 bn bc ps 0 (fun _ => none) 1 (upd (fun _ => none) 1 (some (ptr b))) b ⟨1, 1, ⟨#[47]⟩, 2147484141, ann, staff, ann, 0, 0, 0, 0, 0⟩ (.slice none 0 0) m o1 1 [.int .u64 1] 0 [] rfl h.st h.mc h.mn h.nd (upd_same _ _ _) (by decide) (by decide) (by decide) (by decide) (by decide) dirR ok1 ch1 (by decide) h.row (World.ownsRow_nil _ _ _ _) (fun g _ hh => by simp [Value.ownBlock] at hh) h.nbc rfl (by decide) (by decide) (by decide) rfl).mono ?_
  rintro e W' ⟨rfl, ps', b', m', g, cap, E⟩
  exact ⟨rfl, ps', b', m', first h E⟩
theorem c2_b : (c2 (2, nB)).isSome = false := by
  unfold c2
  rw [upd_other _ _ (fun e => absurd (congrArg Prod.fst e) (by decide))]
  rfl
theorem w_do2 (h : S2 w W p bn bc ps b b2 m2) : Calls Try.prog 22 #[.pointer (some ⟨p, 0, none⟩), .agg (opL o2).toArray] W fun e W' => e = .returned (.tuple #[.int .u64 3, .int .i64 0]) ∧ ∃ ps' ks b3 m3, S3 w W' p bn bc ps' b b2 m2 b3 m3 ks { newIs o2 with path := 3 } 0 (fun _ => none) := by
  refine (Do_make_ok W p 3 3 bn bc ps 1 c2 2 (f2 b b2) b2 { newIs o1 with path := 2 } (.slice none 0 0) m2 o2 2 [.int .u64 1, .int .u64 (2 : Nat)] 0 [] rfl h.st h.mc h.mn h.nd (upd_same _ _ _) (by decide) (by decide) (by decide) (by decide) (by decide) dirA ok2 ch2 (by decide) h.row (World.ownsRow_nil _ _ _ _) (fun g _ hh => by simp [Value.ownBlock] at hh) h.nbc rfl (by decide) (by decide) (by decide) c2_b).mono ?_
  rintro e W' ⟨rfl, ps', b', m', g, cap, E⟩
  exact ⟨rfl, ps', _, b', m', second h E⟩
theorem f3_2 : f3 b b2 b3 2 = some (ptr b2) := rfl
theorem f3_3 : f3 b b2 b3 3 = some (ptr b3) := rfl
theorem c3_b : (c3 (2, nB)).isSome = true := by unfold c3; rw [upd_same]; rfl
theorem c3_c : (c3 (2, nC)).isSome = false := by
  unfold c3
  rw [upd_other _ _ (fun e => absurd (congrArg (fun x => x.2.size + x.2[0]!.toNat) e) (by decide +kernel))]
  unfold c2
  rw [upd_other _ _ (fun e => absurd (congrArg Prod.fst e) (by decide))]
  rfl
theorem w_do3 (h : S3 w W p bn bc ps b b2 m2 b3 m3 ks d3 nn gg) : Calls Try.prog 22 #[.pointer (some ⟨p, 0, none⟩), .agg (opL o2).toArray] W fun e W' => e = .returned (.tuple #[.int .u64 0, .int .i64 82]) ∧ S3 w W' p bn bc ps b b2 m2 b3 m3 ks d3 nn gg := by
  refine (Do_make_not W p 3 4 bn bc ps 2 c3 3 (f3 b b2 b3) b2 { newIs o1 with path := 2 } ks m2 o2 82 rfl h.st h.mc h.mn h.nd f3_2 (by decide) ?_).mono ?_
  · intro W2 hP hC hM hN
    exact make_82 W2 p 1 3 4 bn bc ps 2 c3 3 (f3 b b2 b3) b2 { newIs o1 with path := 2 } 1 ks m2 o2 hP hC hM hN (by decide) (by decide) (by decide) (by decide) (by decide) (by decide) dirA ok2 ch2 c3_b
  · rintro e W' ⟨rfl, k⟩
    exact ⟨rfl, h.kept k⟩
theorem w_do4 (h : S3 w W p bn bc ps b b2 m2 b3 m3 ks d3 nn gg) : Calls Try.prog 22 #[.pointer (some ⟨p, 0, none⟩), .agg (opL o4).toArray] W fun e W' => e = .returned (.tuple #[.int .u64 0, .int .i64 83]) ∧ S3 w W' p bn bc ps b b2 m2 b3 m3 ks d3 nn gg := by
  refine (Do_make_not W p 3 4 bn bc ps 2 c3 3 (f3 b b2 b3) b2 { newIs o1 with path := 2 } ks m2 o4 83 rfl h.st h.mc h.mn h.nd f3_2 (by decide) ?_).mono ?_
  · intro W2 hP hC hM hN
    exact make_83 W2 p 1 3 4 bn bc ps 2 c3 3 (f3 b b2 b3) b2 { newIs o1 with path := 2 } 1 ks m2 o4 hP hC hM hN (by decide) (by decide) (by decide) (by decide) (by decide) (by decide) dirA ok4 ch4 (by decide) c3_c
  · rintro e W' ⟨rfl, k⟩
    exact ⟨rfl, h.kept k⟩
def dB : Is := { newIs o2 with path := 3 }
def dB' : Is := { newIs o2 with path := 3, length := 256 }
theorem srcOf {n : Nat} {l : List UInt8} (hb : Bx W n 5 (b8 l)) : ∀ j u, (b8 l).toList[j]? = some u → W.cell? ((⟨n, 0, none⟩ : Addr).add j) = some u := by
  intro j u hj
  have hadd : (⟨n, 0, none⟩ : Addr).add j = ⟨n, j, none⟩ := by unfold Addr.add; split <;> simp_all
  rw [hadd]
  exact hb.cell j (by simpa using hj)
theorem g6_eq : upd (fun i => ((fun _ => none : Nat → Option (List UInt8)) i).map blkV) 0 (some (blkV X6)) = fun i => (g6 i).map blkV := by
  funext i
  unfold upd g6
  by_cases h : i = 0
  · simp [h]
  · simp [h]
theorem w_do5 (n : Nat) (h : S3 w W p bn bc ps b b2 m2 b3 m3 ks dB 0 (fun _ => none)) (hb : Bx W n 5 (b8 six)) : Calls Try.prog 22 #[.pointer (some ⟨p, 0, none⟩), .agg (opL (oB n 6)).toArray] W fun e W' => e = .returned (.tuple #[.int .u64 3, .int .i64 0]) ∧ S3 w W' p bn bc ps b b2 m2 b3 m3 ks dB' 1 g6 := by
  refine (Do_bytes_ok W p 3 4 bn bc ps 3 (f3 b b2 b3) b3 dB (.slice none 0 0) m3 0 (fun _ => none) (oB n 6) ⟨n, 0, none⟩ six 6 rfl rfl h.st h.mn h.n3 f3_3 (show 3 < 18446744073709551616 by decide) h.data h.nmb (fun i l hh => by cases hh) (srcOf hb) hb.lt (Bx.ne hb h.n3 (by decide)) dirB (by decide) (show six.length ≤ 256 - 250 % 256 by decide) (show 250 ≤ 65536 - six.length by decide) (by decide) 1 rfl).mono ?_
  rintro e W' ⟨rfl, N', M', k⟩
  have hbp : b3 ≠ p := Bx.ne h.n3 h.st (by decide)
  have hm3 : m3 ≠ bn := h.nmb
  have hmc : m3 ≠ bc := fun e => by
    obtain ⟨es, ck, h1, hs1, -⟩ := h.data
    obtain ⟨es2, ck2, h2, hs2, -⟩ := h.mc
    rw [e, h2] at h1
    cases h1
    omega
  have ni : ∀ q, q ≠ b3 → q ≠ m3 → q ∉ [b3, m3] := fun q h1 h2 hh => by simp at hh; rcases hh with hh | hh; exact h1 hh; exact h2 hh
  have nb2 : b2 ≠ b3 := fun e => by
    have h1 : W.heap[b2]? = _ := h.nd
    have h2 : W.heap[b3]? = _ := h.n3
    rw [e, h2] at h1
    cases h1
  refine ⟨rfl, h.st.kept k (ni p hbp.symm (fun e => h.data.ne h.st e.symm)), h.mn.kept k (ni bn (h.mn.ne h.n3) hm3.symm), h.mc.kept k (ni bc (h.mc.ne h.n3) hmc.symm), h.nd.kept k (ni b2 nb2 (fun e => h.data.ne h.nd e.symm)), N', ?_, h.lb3, h.lm3, h.nmb, Kept.newer h.k k (fun i hi => by have := h.lb3; have := h.lm3; simp at hi; omega)⟩
  have M2 : Mp nK W' m3 1 (upd (fun i => ((fun _ => none : Nat → Option (List UInt8)) i).map blkV) (250 / 256) (some (blkV (over8 z256 (250 % 256) six)))) := M'
  rw [show (250 / 256 : Nat) = 0 from rfl, show (250 % 256 : Nat) = 250 from rfl] at M2
  rw [← g6_eq]
  exact M2
theorem w_do6 (n : Nat) (h : S3 w W p bn bc ps b b2 m2 b3 m3 ks dB' 1 g6) (hb : Bx W n 5 (b8 seven)) : Calls Try.prog 22 #[.pointer (some ⟨p, 0, none⟩), .agg (opL (oB n 7)).toArray] W fun e W' => e = .returned (.tuple #[.int .u64 0, .int .i64 84]) ∧ S3 w W' p bn bc ps b b2 m2 b3 m3 ks dB' 1 g6 := by
  refine (Do_bytes_84 W p 3 4 bn bc ps 3 (f3 b b2 b3) b3 dB' (.slice none 0 0) m3 1 g6 (oB n 7) ⟨n, 0, none⟩ seven 7 rfl rfl h.st h.mn h.n3 f3_3 (show 3 < 18446744073709551616 by decide) h.data g6_len (srcOf hb) hb.lt (Bx.ne hb h.n3 (by decide)) dirB (by decide) (show 256 - 250 % 256 < seven.length by decide) (by decide) (show 250 < 1000000000 by decide)).mono ?_
  rintro e W' ⟨rfl, k⟩
  exact ⟨rfl, h.kept k⟩
theorem w_do5L (n : Nat) (h : S3 w W p bn bc ps b b2 m2 b3 m3 ks dB 0 (fun _ => none)) (hb : Bx W n 5 #[.int .u8 1, .int .u8 2, .int .u8 3, .int .u8 4, .int .u8 5, .int .u8 6]) : Calls Try.prog 22 #[.pointer (some ⟨p, 0, none⟩), .agg #[.int .u8 6, .int .u64 3, .string ⟨#[]⟩, .int .u8 0, .int .u64 0, .int .u64 0, .string ⟨#[]⟩, .int .u32 0, .string ⟨#[]⟩, .string ⟨#[]⟩, .string ⟨#[]⟩, .int .u32 0, .int .u32 0, .int .u32 0, .int .u64 0, .int .i64 0, .int .i64 0, .int .u64 250, .slice (some ⟨n, 0, none⟩) 6 6, .int .i64 0]] W fun e W' => e = .returned (.tuple #[.int .u64 3, .int .i64 0]) ∧ S3 w W' p bn bc ps b b2 m2 b3 m3 ks dB' 1 g6 := w_do5 n h hb
theorem w_do6L (n : Nat) (h : S3 w W p bn bc ps b b2 m2 b3 m3 ks dB' 1 g6) (hb : Bx W n 5 #[.int .u8 1, .int .u8 2, .int .u8 3, .int .u8 4, .int .u8 5, .int .u8 6, .int .u8 7]) : Calls Try.prog 22 #[.pointer (some ⟨p, 0, none⟩), .agg #[.int .u8 6, .int .u64 3, .string ⟨#[]⟩, .int .u8 0, .int .u64 0, .int .u64 0, .string ⟨#[]⟩, .int .u32 0, .string ⟨#[]⟩, .string ⟨#[]⟩, .string ⟨#[]⟩, .int .u32 0, .int .u32 0, .int .u32 0, .int .u64 0, .int .i64 0, .int .i64 0, .int .u64 250, .slice (some ⟨n, 0, none⟩) 7 7, .int .i64 0]] W fun e W' => e = .returned (.tuple #[.int .u64 0, .int .i64 84]) ∧ S3 w W' p bn bc ps b b2 m2 b3 m3 ks dB' 1 g6 := w_do6 n h hb
theorem w_read (h : S3 w W p bn bc ps b b2 m2 b3 m3 ks dB' 1 g6) : Calls Try.prog 27 #[.pointer (some ⟨p, 0, none⟩), .int .u64 3, .int .u64 248, .int .i64 4] W fun e W' => ∃ g2 cap, e = .returned (.slice (some ⟨g2, 0, none⟩) 4 cap) ∧ W'.ownsRow 0 5 1 (.slice (some ⟨g2, 0, none⟩) 4 cap) 4 (bl [0, 0, 1, 2]) ∧ S3 w W' p bn bc ps b b2 m2 b3 m3 ks dB' 1 g6 := by
  refine (Read_some W p 3 4 bn bc ps 3 3 b3 (f3 b b2 b3) dB' (.slice none 0 0) m3 1 g6 248 4 4 h.st h.mn f3_3 h.n3 (by decide) h.data g6_len (by decide) (by decide) (by decide) (by decide) (by decide)).mono ?_
  rintro e W' ⟨g2, cap, rfl, hr, -, k⟩
  rw [told4] at hr
  exact ⟨g2, cap, rfl, hr, h.kept k⟩
theorem w_node (h : S3 w W p bn bc ps b b2 m2 b3 m3 ks dB' 1 g6) : Calls Try.prog 15 #[.pointer (some ⟨p, 0, none⟩), .int .u64 3] W fun e W' => e = .returned (.tuple #[.agg (isL dB' 0).toArray, .bool true]) ∧ Kept [] W W' :=
  Node_some W p 3 4 bn bc ps 3 3 b3 (f3 b b2 b3) dB' m3 none 0 0 h.st h.mn f3_3 h.n3 (by decide)
theorem w_count (h : S3 w W p bn bc ps b b2 m2 b3 m3 ks dB' 1 g6) : Calls Try.prog 18 #[.pointer (some ⟨p, 0, none⟩)] W fun e W' => e = .returned (.int .i64 3) ∧ Kept [] W W' :=
  Count_any W p 3 4 bn bc ps 3 (f3 b b2 b3) h.st h.mn
end

set_option maxRecDepth 100000 in
set_option maxHeartbeats 8000000 in
theorem works_any (w : World) : Calls Try.prog 11 #[] w fun e w' => e = .returned (.bool true) ∧ Kept [] w w' := by
  have STORE : Hid (Calls Try.prog 21 #[.int .i64 3] w fun e w' => ∃ p bn bc ps b m, e = .returned (.pointer (some ⟨p, 0, none⟩)) ∧ S1 w w' p bn bc ps b m) := (store_any w 3 (by decide) (by decide)).mono (by
    rintro e w' ⟨p, bn, bc, ps, b, m, rfl, h1, h2, h3, h4, h5, -, l1, l2, l3, l4, l5, n1, -, -, lq, k⟩
    exact ⟨p, bn, bc, ps, b, m, rfl, h1, h2, h3, h4, h5, l1, l2, l3, l4, l5, n1.symm, lq, k⟩)
  have MAK1 : Hid (∀ W, Calls Try.prog 26 #[.int .u64 1, .string ⟨#[97]⟩, .int .u32 2147484096] W fun e W' => e = .returned (.agg (opL o1).toArray) ∧ Kept [] W W') := fun W => mak_any W 1 nA 2147484096
  have MAK2 : Hid (∀ W, Calls Try.prog 26 #[.int .u64 2, .string ⟨#[98]⟩, .int .u32 384] W fun e W' => e = .returned (.agg (opL o2).toArray) ∧ Kept [] W W') := fun W => mak_any W 2 nB 384
  have MAK4 : Hid (∀ W, Calls Try.prog 26 #[.int .u64 2, .string ⟨#[99]⟩, .int .u32 384] W fun e W' => e = .returned (.agg (opL o4).toArray) ∧ Kept [] W W') := fun W => mak_any W 2 nC 384
  go_enter Try.func11, Try.ntmps11
  have NODE : Hid (∀ {p bn bc : Nat} {ps : Value} {b b2 m2 b3 m3 : Nat} {ks : Value} W, S3 w W p bn bc ps b b2 m2 b3 m3 ks dB' 1 g6 → Calls Try.prog 15 #[.pointer (some ⟨p, 0, none⟩), .int .u64 3] W fun e W' => e = .returned (.tuple #[.agg #[.int .u64 3, .int .u64 2, .string ⟨#[98]⟩, .int .u32 384, .string ann, .string staff, .string ann, .int .u32 0, .int .u32 0, .int .u32 0, .int .u64 256, .int .i64 0, .int .i64 0], .bool true]) ∧ Kept [] W W') := fun W h => w_node h
  go_wp2_with (first | (go_at_call 21; refine STORE.out.mono ?_; rintro e wa ⟨p, bn, bc, ps, b, m, rfl, h⟩; have A1 := Lib.hid h; clear h) | (go_at_call 17; refine (Next_any _ p 3 2 bn bc ps A1.out.st).mono ?_; rintro e wb ⟨rfl, kb⟩; have A2 := Lib.hid (A1.out.kept kb); clear kb) | (go_at_call 26; ((with_reducible refine (MAK1.out _).mono ?_)); rintro e wc ⟨rfl, kc⟩; have A3 := Lib.hid (A2.out.kept kc); clear kc) | (go_at_call 22; ((with_reducible refine (w_do1 A3.out).mono ?_)); rintro e wd ⟨rfl, ps2, b2, m2, h⟩; have B1 := Lib.hid h; clear h) | (go_at_call 26; ((with_reducible refine (MAK2.out _).mono ?_)); rintro e wg ⟨rfl, kg⟩; have C2 := Lib.hid (C1.out.kept kg); clear kg) | (go_at_call 26; ((with_reducible refine (MAK2.out _).mono ?_)); rintro e we ⟨rfl, ke⟩; have B2 := Lib.hid (B1.out.kept ke); clear ke) | (go_at_call 22; ((with_reducible refine (w_do3 C2.out).mono ?_)); rintro e wh ⟨rfl, h⟩; have C3 := Lib.hid h; clear h) | (go_at_call 22; ((with_reducible refine (w_do2 B2.out).mono ?_)); rintro e wf ⟨rfl, ps3, ks3, b3, m3, h⟩; have C1 := Lib.hid h; clear h) | (go_at_call 26; ((with_reducible refine (MAK4.out _).mono ?_)); rintro e wi ⟨rfl, ki⟩; have C4 := Lib.hid (C3.out.kept ki); clear ki) | (go_at_call 22; ((with_reducible refine (w_do4 C4.out).mono ?_)); rintro e wj ⟨rfl, h⟩; have C5 := Lib.hid h; clear h) | (go_at_call 22; ((with_reducible refine (w_do5L wj.heap.size (C5.out.kept ((Kept.refl [] wj).alloc _)) (Bx.made wj 5 _)).mono ?_)); rintro e wk ⟨rfl, h⟩; have C6 := Lib.hid h; clear h) | (go_at_call 22; ((with_reducible refine (w_do6L wk.heap.size (C6.out.kept ((Kept.refl [] wk).alloc _)) (Bx.made wk 5 _)).mono ?_)); rintro e wl ⟨rfl, h⟩; have C7 := Lib.hid h; clear h) | (go_at_call 27; refine (w_read C7.out).mono ?_; rintro e wm ⟨g2, cap, rfl, hr, h⟩; have R8 := Lib.hid hr; have C8 := Lib.hid h; clear h hr) | (go_at_call 15; refine (NODE.out _ C8.out).mono ?_; rintro e wn ⟨rfl, kn⟩; have C9 := Lib.hid (C8.out.kept kn); have K9 := Lib.hid kn; clear kn) | (go_at_call 18; ((with_reducible refine (w_count (C9.out.kept ((Kept.refl [] wn).alloc _))).mono ?_)); rintro e wo ⟨rfl, ko⟩; have KO : Hid (Kept [] wn wo) := ((Kept.refl [] wn).alloc _).trans ko (fun i hi => by cases hi); have RO := Lib.hid (row_keptT (row_keptT R8.out K9.out (fun _ _ h => by simp at h)) KO.out (fun _ _ h => by simp at h)); have cv := conv_bl (l := [0, 0, 1, 2]) (n := 4) rfl RO.out; have BO := Lib.hid ((Bx.made wn 41 #[.int .u64 3, .int .u64 2, .string ⟨#[98]⟩, .int .u32 384, .string ann, .string staff, .string ann, .int .u32 0, .int .u32 0, .int .u32 0, .int .u64 256, .int .i64 0, .int .i64 0]).kept ko (fun h => by cases h)); have x1 := BO.out.cell 1 (v := .int .u64 2) rfl; have x2 := BO.out.cell 2 (v := .string ⟨#[98]⟩) rfl; have x10 := BO.out.cell 10 (v := .int .u64 256) rfl; have KF := Lib.hid (C9.out.k.trans KO.out (fun i hi => by cases hi)); clear ko))
  go_ret
  exact ⟨rfl, KF.out⟩
end Nd
end Go.Proofs.Ytihkldcdikbinaa
