/- The law StatBack walked: a record that can be written is read again as what it was. -/
import Derived.Test.YtpomachfnjgjbaaRre
import Derived.Test.YtpomachfnjgjbaaAwk
import Derived.Test.YtpomachfnjgjbaaReq
namespace Go.Proofs.Ytpomachfnjgjbaa
set_option linter.unusedVariables false
open Go.RowKit
theorem Rec.bytes_good {s : Rec} (h : s.err = 0) : s.bytes = s.enc := by unfold Rec.bytes; rw [if_pos h]
theorem Rec.bytes_bad {s : Rec} (h : s.err ≠ 0) : s.bytes = [] := by unfold Rec.bytes; rw [if_neg h]
namespace Stt
open Go.Proofs.Ytpomachfnjgjbaa.Txt

set_option maxHeartbeats 1000000 in
set_option maxRecDepth 100000 in
theorem writes_any (w : World) (s : Rec) (so : s.Ok) : Calls Try.prog 10 #[s.val] w fun e w' => e = .returned (.bool ((s.err : Int) == 0)) ∧ Kept [] w w' := by
  have L0 : Hid (Lies (w.alloc (.cells s.cells 31 (0, 0))) w.heap.size s) := heap_alloc_new w _
  have K0 : Hid (Kept [] w (w.alloc (.cells s.cells 31 (0, 0)))) := (Kept.refl [] _).alloc _
  have EN := Lib.hid (rencode_any (w.alloc (.cells s.cells 31 (0, 0))) s so)
  obtain ⟨er, her⟩ : ∃ n, n = s.err := ⟨_, rfl⟩
  obtain ⟨rb, hrb⟩ : ∃ n, n = s.bytes := ⟨_, rfl⟩
  rw [← her, ← hrb] at EN
  rw [← her]
  clear her hrb
  obtain ⟨c0, c1, c2, c3, c4, c5, c6, c7, c8, c9, c10, c11, c12⟩ := L0.out.cells
  obtain ⟨ty, dev, kind, vers, path, mode, atime, mtime, len, name, uid, gid, muid⟩ := s
  unfold Rec.val Rec.cells at *
  simp only [] at *
  clear c0 c1 c2 c3 c4 c5 c6 c7 c8 c9 c10 c11 c12 L0
  go_enter Try.func10, Try.ntmps10
  go_wp2_with fail
  refine EN.out.mono ?_
  rintro e w1 ⟨v, rfl, -, k1⟩
  go_wp2_with fail
  go_ret
  exact ⟨rfl, K0.out.trans k1.out (fun i hi => by simp at hi)⟩

set_option maxHeartbeats 4000000 in
set_option maxRecDepth 100000 in
theorem back_any (w : World) (s : Rec) (so : s.Ok) : Calls Try.prog 4 #[s.val] w fun e w' => e = .returned (.bool true) ∧ Kept [] w w' := by
  have L0 : Hid (Lies (w.alloc (.cells s.cells 31 (0, 0))) w.heap.size s) := heap_alloc_new w _
  have K0 : Hid (Kept [] w (w.alloc (.cells s.cells 31 (0, 0)))) := (Kept.refl [] _).alloc _
  have WT := Lib.hid (fun w => weight_any w s so)
  have SZ := Lib.hid (fun w => size_any w s so)
  have CW := Lib.hid (fun w => writes_any w s so)
  have CE := Lib.hid (fun w => encode_any w s so)
  obtain ⟨er, her⟩ : ∃ n, n = s.err := ⟨_, rfl⟩
  obtain ⟨sz, hsz⟩ : ∃ n, n = s.size := ⟨_, rfl⟩
  obtain ⟨bs, hbs⟩ : ∃ n, n = s.bytes := ⟨_, rfl⟩
  have hbl : bs.length ≤ 65537 := by rw [hbs]; exact s.bytes_length
  have G1 : Hid (er = 0 → bs.length = sz) := fun h => by rw [hbs, hsz, Rec.bytes_good (her ▸ h), Rec.enc_length]
  have G2 : Hid (er = 0 → dec bs = some s) := fun h => by rw [hbs, Rec.bytes_good (her ▸ h)]; exact dec_enc s so (her ▸ h)
  have G3 : Hid (er = 0 → dec (bs ++ [0]) = none) := fun h => by rw [hbs, Rec.bytes_good (her ▸ h)]; exact dec_more s 0 so (her ▸ h)
  have G4 : Hid (er = 0 → dec bs.dropLast = none) := fun h => by rw [hbs, Rec.bytes_good (her ▸ h)]; exact dec_less s so (her ▸ h)
  have G5 : Hid (er ≠ 0 → bs = []) := fun h => by rw [hbs]; exact Rec.bytes_bad (her ▸ h)
  have G6 : Hid (49 ≤ sz) := by rw [hsz]; unfold Hid Rec.size; omega
  have hszb : sz ≤ 600000000000000 := by
    obtain ⟨-, -, -, -, -, -, -, -, -, z1, z2, z3, z4⟩ := so
    rw [hsz]; unfold Rec.size; omega
  rw [← her] at CW CE
  rw [← hsz] at WT SZ
  rw [← hbs] at CE
  have SO := Lib.hid so
  clear her hsz hbs so
  have LK : Hid (∀ w b, Lies w b s → w.cell? ⟨b, 0, none⟩ = some (.int .u16 s.ty) ∧ w.cell? ⟨b, 1, none⟩ = some (.int .u32 s.dev) ∧ w.cell? ⟨b, 2, none⟩ = some (.int .u8 s.kind) ∧ w.cell? ⟨b, 3, none⟩ = some (.int .u32 s.vers) ∧ w.cell? ⟨b, 4, none⟩ = some (.int .u64 s.path) ∧
    w.cell? ⟨b, 5, none⟩ = some (.int .u32 s.mode) ∧ w.cell? ⟨b, 6, none⟩ = some (.int .u32 s.atime) ∧ w.cell? ⟨b, 7, none⟩ = some (.int .u32 s.mtime) ∧ w.cell? ⟨b, 8, none⟩ = some (.int .u64 s.len) ∧ w.cell? ⟨b, 9, none⟩ = some (.string s.name) ∧ w.cell? ⟨b, 10, none⟩ = some (.string s.uid) ∧
    w.cell? ⟨b, 11, none⟩ = some (.string s.gid) ∧ w.cell? ⟨b, 12, none⟩ = some (.string s.muid)) := fun w b h => h.cells
  obtain ⟨ty, dev, kind, vers, path, mode, atime, mtime, len, name, uid, gid, muid⟩ := s
  unfold Rec.val Rec.cells at *
  simp only [] at *
  go_enter Try.func4, Try.ntmps4
  go_wp2_with fail
  refine (awake_any _).mono ?_
  rintro e w1 ⟨rfl, k1⟩
  have L1 := Lib.hid (L0.out.kept k1 (by simp))
  have K1 := Lib.hid (K0.out.trans k1 (fun i hi => by simp at hi))
  obtain ⟨c0, c1, c2, c3, c4, c5, c6, c7, c8, c9, c10, c11, c12⟩ := LK.out _ _ L1.out
  clear k1 L0 K0
  go_wp2_with fail
  refine (WT.out _).mono ?_
  rintro e w2 ⟨rfl, k2⟩
  have L2 := Lib.hid (L1.out.kept k2 (by simp))
  have K2 := Lib.hid (K1.out.trans k2 (fun i hi => by simp at hi))
  clear k2 L1 K1 c0 c1 c2 c3 c4 c5 c6 c7 c8 c9 c10 c11 c12 WT
  by_cases hbig : 268435456 < sz
  · have j1 : (268435456 : Int) < (sz : Int) := by omega
    go_wp2_with fail
    go_ret
    exact ⟨rfl, K2.out⟩
  have j1 : ¬ (268435456 : Int) < (sz : Int) := by omega
  clear hbig
  obtain ⟨c0, c1, c2, c3, c4, c5, c6, c7, c8, c9, c10, c11, c12⟩ := LK.out _ _ L2.out
  go_wp2_with fail
  refine (CW.out _).mono ?_
  rintro e w3 ⟨rfl, k3⟩
  have L3 := Lib.hid (L2.out.kept k3 (by simp))
  have K3 := Lib.hid (K2.out.trans k3 (fun i hi => by simp at hi))
  clear k3 L2 K2 c0 c1 c2 c3 c4 c5 c6 c7 c8 c9 c10 c11 c12 CW
  obtain ⟨c0, c1, c2, c3, c4, c5, c6, c7, c8, c9, c10, c11, c12⟩ := LK.out _ _ L3.out
  go_wp2_with fail
  refine (CE.out _).mono ?_
  rintro e w4 ⟨v, rfl, h4, k4⟩
  obtain ⟨va, vc, hv⟩ := own_slice_b h4.out
  subst hv
  have L4 := Lib.hid (L3.out.kept k4.out (by simp))
  have K4 := Lib.hid (K3.out.trans k4.out (fun i hi => by simp at hi))
  clear k4 L3 K3 c0 c1 c2 c3 c4 c5 c6 c7 c8 c9 c10 c11 c12 CE
  by_cases he : er = 0
  case neg =>
    have e0 : ((er : Int) == 0) = false := by rw [beq_eq_false_iff_ne]; omega
    have e1 : ((er : Int) != 0) = true := by rw [bne_iff_ne]; omega
    have hb0 := G5.out he
    subst hb0
    clear he G1 G2 G3 G4 G5 G6
    go_wp2_with fail
    go_ret
    exact ⟨rfl, K4.out⟩
  case pos =>
    subst he
    have hlen := G1.out rfl
    have h49 : 49 ≤ bs.length := by rw [hlen]; exact G6.out
    subst hlen
    have D1 := Lib.hid (fun w v T h => decode_yes w v bs T (⟨ty, dev, kind, vers, path, mode, atime, mtime, len, name, uid, gid, muid⟩ : Rec) (by omega) (G2.out rfl) h)
    have D2 := Lib.hid (fun w v T h => decode_no w v (bs ++ [0]) T (by simp; omega) (G3.out rfl) h)
    have D3 := Lib.hid (fun w v T h => decode_no w v bs.dropLast T (by simp; omega) (G4.out rfl) h)
    clear G1 G2 G3 G4 G5 G6 SO
    unfold Rec.val Rec.cells at D1
    simp only [] at D1
    obtain ⟨g, c, hv, -, hcap⟩ := h4.out.form (by omega)
    obtain ⟨rfl, rfl⟩ : va = some ⟨g, 0, none⟩ ∧ vc = c := by cases hv; exact ⟨rfl, rfl⟩
    clear hv
    obtain ⟨i0, hi, hz0, hz1, hz2⟩ := info_parts Wrt.info5
    obtain ⟨c0, c1, c2, c3, c4, c5, c6, c7, c8, c9, c10, c11, c12⟩ := LK.out _ _ L4.out
    go_wp2_with fail
    refine (SZ.out _).mono ?_
    rintro e w5 ⟨rfl, k5⟩
    have L5 := Lib.hid (L4.out.kept k5 (by simp))
    have K5 := Lib.hid (K4.out.trans k5 (fun i hi => by simp at hi))
    have h5 : Hid (Wrt.Own w5 0 (.slice (some ⟨g, 0, none⟩) bs.length vc) bs) := World.ownsRow.mono (own_keptB h4.out k5 (fun _ _ hm => by simp at hm)) (Nat.zero_le _)
    clear k5 h4 L4 K4 c0 c1 c2 c3 c4 c5 c6 c7 c8 c9 c10 c11 c12 SZ
    go_wp2_with fail
    refine (D1.out _ _ _ (Src.of_own h5.out)).mono ?_
    rintro e w6 ⟨rfl, k6⟩
    have L6 := Lib.hid (L5.out.kept k6 (by simp))
    have K6 := Lib.hid (K5.out.trans k6 (fun i hi => by simp at hi))
    have h6 : Hid (Wrt.Own w6 0 (.slice (some ⟨g, 0, none⟩) bs.length vc) bs) := own_keptB h5.out k6 (fun _ _ hm => by simp at hm)
    clear k6 h5 L5 K5 D1
    have L7 : Hid (Lies (w6.alloc (.cells #[.int .u16 ty, .int .u32 dev, .int .u8 kind, .int .u32 vers, .int .u64 path, .int .u32 mode, .int .u32 atime, .int .u32 mtime, .int .u64 len, .string name, .string uid, .string gid, .string muid] 31 (0, 0))) w.heap.size (⟨ty, dev, kind, vers, path, mode, atime, mtime, len, name, uid, gid, muid⟩ : Rec)) := L6.out.kept ((Kept.refl [] _).alloc _) (by simp)
    have K7 : Hid (Kept [] w (w6.alloc (.cells #[.int .u16 ty, .int .u32 dev, .int .u8 kind, .int .u32 vers, .int .u64 path, .int .u32 mode, .int .u32 atime, .int .u32 mtime, .int .u64 len, .string name, .string uid, .string gid, .string muid] 31 (0, 0)))) := K6.out.alloc _
    have h7 : Hid (Wrt.Own (w6.alloc (.cells #[.int .u16 ty, .int .u32 dev, .int .u8 kind, .int .u32 vers, .int .u64 path, .int .u32 mode, .int .u32 atime, .int .u32 mtime, .int .u64 len, .string name, .string uid, .string gid, .string muid] 31 (0, 0))) 0 (.slice (some ⟨g, 0, none⟩) bs.length vc) bs) := own_keptB h6.out ((Kept.refl [] _).alloc _) (fun _ _ hm => by simp at hm)
    obtain ⟨c0, c1, c2, c3, c4, c5, c6, c7, c8, c9, c10, c11, c12⟩ := LK.out _ _ L7.out

    obtain ⟨a', c', hv', -, hcl⟩ := Src.of_own h7.out
    obtain ⟨rfl, rfl⟩ : a' = some ⟨g, 0, none⟩ ∧ c' = vc := by cases hv'; exact ⟨rfl, rfl⟩
    have Hcl := Lib.hid (hcl _ rfl).2
    clear hv' hcl
    go_wp2_with (at_builtin; first | (refine wpList_append_own_at _ rfl (.tmp 57) (.tmp 58) 34 rfl w6.heap.size 5 i0 (.int .u8 0) 1 1 Try.underlying34 hi hz0 hz1 hz2 rfl (by decide) _ 0 [] rfl (World.ownsRow_nil _ _ _ _) ⟨g, 0, none⟩ _ _ (bs.map bv) rfl (by simp) Hcl.out (by intro u hu; obtain ⟨x, _, rfl⟩ := List.mem_map.1 hu; rfl) (by unfold maxLen; omega) (by omega) (by simp) ?_; intro v1 w8 hown hgrow _ hat; have R1 : Hid (w8.ownsRow w6.heap.size 5 1 v1 bs.length (bs.map bv)) := (by simpa [Hid] using hown); have R2 : Hid (Kept [] (w6.alloc (.cells #[.int .u16 ty, .int .u32 dev, .int .u8 kind, .int .u32 vers, .int .u64 path, .int .u32 mode, .int .u32 atime, .int .u32 mtime, .int .u64 len, .string name, .string uid, .string gid, .string muid] 31 (0, 0))) w8) := (Kept.refl [] _).grown hgrow (by intro k hk; cases hk); clear hown hgrow hat) | (refine wpList_append_own _ rfl (.tmp 60) (.tmp 61) 34 rfl w6.heap.size 5 i0 (.int .u8 0) 1 1 Try.underlying34 hi hz0 hz1 hz2 rfl (by decide) v1 bs.length _ rfl (R1.out.alloc _) ⟨w8.heap.size, 0, none⟩ 1 1 [bv 0] rfl rfl (World.news_of_block (cs := #[bv 0]) (by exact heap_alloc_new w8 _)) (by intro u hu; simp at hu; subst hu; rfl) (by unfold maxLen; omega) (by omega) (by have := R2.out.size; simp at this ⊢; omega) ?_; intro v2 w9 hown2 hgrow2 _; have Q1 : Hid (Wrt.Own w9 w6.heap.size v2 (bs ++ [0])) := (by simpa [Hid, Wrt.Own] using hown2); have Q2 : Hid (Kept [] w6 w9) := ((((Kept.refl [] w6).alloc _).trans R2.out (fun i hi => by simp at hi)).trans ((Kept.refl [] w8).alloc _) (fun i hi => by simp at hi)).grown hgrow2 (fun i hi => Or.inr (R1.out.lt i hi).1); clear hown2 hgrow2))
    refine (D2.out _ _ _ (Src.of_own Q1.out)).mono ?_
    rintro e w10 ⟨rfl, k10⟩
    have K10 : Hid (Kept [] w6 w10) := Q2.out.trans k10 (fun i hi => by simp at hi)
    have h10 : Hid (Wrt.Own w10 0 (.slice (some ⟨g, 0, none⟩) bs.length c') bs) := own_keptB h6.out K10.out (fun _ _ hm => by simp at hm)
    have S10 := Lib.hid (Seg.take (Seg.of_own h10.out) (n := bs.length - 1) (by omega))
    rw [← List.dropLast_eq_take] at S10
    have hdl : bs.dropLast.length = bs.length - 1 := by simp
    have HDL := Lib.hid hdl
    have hcap2 : bs.length ≤ c' := by
      rcases h10.out.2 with ⟨_, h0⟩ | ⟨g', cap', cur, hv, _, _, hnc, _⟩
      · omega
      · cases hv; exact hnc
    have hx : ((bs.length : Int) - 1) = ((bs.length - 1 : Nat) : Int) := by omega
    clear k10 Q1 Q2 R1 R2 Hcl h7 L7 h10 D2 hdl hcap
    go_wp2_with fail
    refine (D3.out _ _ _ S10.out.src).mono ?_
    rintro e w11 ⟨rfl, k11⟩
    go_wp2_with fail
    go_ret
    exact ⟨rfl, (K6.out.trans K10.out (fun i hi => by simp at hi)).trans k11 (fun i hi => by simp at hi)⟩
end Stt
end Go.Proofs.Ytpomachfnjgjbaa
