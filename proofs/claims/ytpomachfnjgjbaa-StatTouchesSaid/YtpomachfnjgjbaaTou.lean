/- The law StatTouches walked: what a change touches. -/
import Derived.Test.YtpomachfnjgjbaaPrt
import Derived.Test.YtpomachfnjgjbaaMtx
import Derived.Test.YtpomachfnjgjbaaOvr
import Derived.Test.YtpomachfnjgjbaaAwk
import Derived.Test.YtpomachfnjgjbaaReq
import Derived.Deep.DeepCutAuto
import Derived.IntWalk
namespace Go.Proofs.Ytpomachfnjgjbaa
set_option linter.unusedVariables false
open Go.RowKit
/-- Both records in their boxes. -/
structure Two (w : World) (s h : Rec) (wr : World) : Prop where
  a : Lies wr w.heap.size s
  b : Lies wr (w.heap.size + 1) h
  kept : Kept [] w wr
theorem Two.pure {w : World} {s h : Rec} {wr w' : World} (I : Two w s h wr) (hk : Kept [] wr w') : Two w s h w' :=
  ⟨I.a.kept hk (by simp), I.b.kept hk (by simp), I.kept.trans hk (fun i hi => by simp at hi)⟩

/-- The three records' parts. -/
structure Six (w : World) (pa pb pc : Nat) (s h m : Rec) (wr : World) : Prop where
  x1 : wr.heap[pa + 1]? = some (.cells s.ns 27 (0, 0))
  x2 : wr.heap[pa + 2]? = some (.cells s.ts 9 (0, 0))
  y1 : wr.heap[pb + 1]? = some (.cells h.ns 27 (0, 0))
  y2 : wr.heap[pb + 2]? = some (.cells h.ts 9 (0, 0))
  z1 : wr.heap[pc + 1]? = some (.cells m.ns 27 (0, 0))
  z2 : wr.heap[pc + 2]? = some (.cells m.ts 9 (0, 0))
  kept : Kept [] w wr
theorem Six.pure {w : World} {pa pb pc : Nat} {s h m : Rec} {wr w' : World} (I : Six w pa pb pc s h m wr) (hk : Kept [] wr w') : Six w pa pb pc s h m w' :=
  ⟨(hk.block _ (block_lt I.x1) (by simp)).trans I.x1, (hk.block _ (block_lt I.x2) (by simp)).trans I.x2, (hk.block _ (block_lt I.y1) (by simp)).trans I.y1, (hk.block _ (block_lt I.y2) (by simp)).trans I.y2, (hk.block _ (block_lt I.z1) (by simp)).trans I.z1, (hk.block _ (block_lt I.z2) (by simp)).trans I.z2, I.kept.trans hk (fun i hi => by simp at hi)⟩
theorem Six.cell {w : World} {pa pb pc : Nat} {s h m : Rec} {wr : World} (I : Six w pa pb pc s h m wr) (k : Nat) : wr.cell? ⟨pa + 1, k, none⟩ = s.ns[k]? ∧ wr.cell? ⟨pa + 2, k, none⟩ = s.ts[k]? ∧ wr.cell? ⟨pb + 1, k, none⟩ = h.ns[k]? ∧ wr.cell? ⟨pb + 2, k, none⟩ = h.ts[k]? ∧ wr.cell? ⟨pc + 1, k, none⟩ = m.ns[k]? ∧ wr.cell? ⟨pc + 2, k, none⟩ = m.ts[k]? :=
  ⟨cell_of_row wr (pa + 1) k s.ns 27 (0, 0) I.x1, cell_of_row wr (pa + 2) k s.ts 9 (0, 0) I.x2, cell_of_row wr (pb + 1) k h.ns 27 (0, 0) I.y1, cell_of_row wr (pb + 2) k h.ts 9 (0, 0) I.y2, cell_of_row wr (pc + 1) k m.ns 27 (0, 0) I.z1, cell_of_row wr (pc + 2) k m.ts 9 (0, 0) I.z2⟩

namespace Stt
open Go.Proofs.Ytpomachfnjgjbaa.Txt

set_option maxHeartbeats 8000000 in
set_option maxRecDepth 100000 in
theorem touches_any (w : World) (s h : Rec) (so : s.Ok) (ho : h.Ok) : Calls Try.prog 7 #[s.val, h.val] w fun e w' => e = .returned (.bool true) ∧ Kept [] w w' := by
  have WS := Lib.hid (fun w => weight_any w s so)
  have WH := Lib.hid (fun w => weight_any w h ho)
  have hs1 : s.size ≤ 600000000000000 := by obtain ⟨-, -, -, -, -, -, -, -, -, z1, z2, z3, z4⟩ := so; unfold Rec.size; omega
  have hs2 : h.size ≤ 600000000000000 := by obtain ⟨-, -, -, -, -, -, -, -, -, z1, z2, z3, z4⟩ := ho; unfold Rec.size; omega
  obtain ⟨z1, hz1⟩ : ∃ n, n = s.size := ⟨_, rfl⟩
  obtain ⟨z2, hz2⟩ : ∃ n, n = h.size := ⟨_, rfl⟩
  rw [← hz1] at WS hs1
  rw [← hz2] at WH hs2
  clear hz1 hz2
  have KP := Lib.hid keep_any
  obtain ⟨f, hf⟩ : ∃ f, f = tk s h := ⟨_, rfl⟩
  obtain ⟨m, hm⟩ : ∃ m, m = mix f s h 13 := ⟨_, rfl⟩
  obtain ⟨t, ht⟩ : ∃ t, t = tb f 13 := ⟨_, rfl⟩
  have MO : m.Ok := by rw [hm]; exact mix_ok so ho 13
  have C1 : ∀ w, Calls Try.prog 21 #[keepR.val, h.val] w fun e w' => e = .returned (.int .u16 0) ∧ Kept [] w w' := fun w => by
    have := touched_any w keepR h
    rw [tb_none (fun k _ => tk_keep h k)] at this
    exact this
  have C2 : ∀ w, Calls Try.prog 22 #[keepR.val, h.val] w fun e w' => e = .returned h.val ∧ Kept [] w w' := fun w => by
    have := over_any w keepR h
    rw [mix_none _ _ (fun k _ => tk_keep h k)] at this
    exact this
  have C3 : ∀ w, Calls Try.prog 21 #[h.val, h.val] w fun e w' => e = .returned (.int .u16 0) ∧ Kept [] w w' := fun w => by
    have := touched_any w h h
    rw [tb_none (fun k _ => tk_self h k)] at this
    exact this
  have C4 : ∀ w, Calls Try.prog 21 #[s.val, h.val] w fun e w' => e = .returned (.int .u16 t) ∧ Kept [] w w' := fun w => by rw [ht, hf]; exact touched_any w s h
  have C5 : ∀ w, Calls Try.prog 22 #[s.val, h.val] w fun e w' => e = .returned m.val ∧ Kept [] w w' := fun w => by rw [hm, hf]; exact over_any w s h
  have hag : ∀ k, k < 13 → tk s m k = false := fun k hk => by rw [hm, hf]; exact tk_again s h k hk
  have C6 : ∀ w, Calls Try.prog 21 #[s.val, m.val] w fun e w' => e = .returned (.int .u16 0) ∧ Kept [] w w' := fun w => by
    have := touched_any w s m
    rw [tb_none hag] at this
    exact this
  have C7 : ∀ w, Calls Try.prog 22 #[s.val, m.val] w fun e w' => e = .returned m.val ∧ Kept [] w w' := fun w => by
    have := over_any w s m
    rw [mix_none _ _ hag] at this
    exact this
  have P1 := fun w => parts_any w s so
  have P2 := fun w => parts_any w h ho
  have P3 := fun w => parts_any w m MO
  rw [keep_val] at C1 C2
  have HT : Hid (∀ k, k < 13 → t / 2 ^ k % 2 = if f k then 1 else 0) := fun k hk => by rw [ht]; exact tb_mod f k hk
  have HT2 : Hid (t < 8192) := by rw [ht]; exact tb_lt f 13
  have HNE : Hid (∀ k, f k = true → eqk s h k = false) := fun k hk => by rw [hf] at hk; exact tk_ne hk
  have HM0 : Hid (m.ty = if f 0 then s.ty else h.ty) := by rw [hm]; exact mix_at0 f s h
  have HM1 : Hid (m.dev = if f 1 then s.dev else h.dev) := by rw [hm]; exact mix_at1 f s h
  have HM2 : Hid (m.kind = if f 2 then s.kind else h.kind) := by rw [hm]; exact mix_at2 f s h
  have HM3 : Hid (m.vers = if f 3 then s.vers else h.vers) := by rw [hm]; exact mix_at3 f s h
  have HM4 : Hid (m.path = if f 4 then s.path else h.path) := by rw [hm]; exact mix_at4 f s h
  have HM5 : Hid (m.mode = if f 5 then s.mode else h.mode) := by rw [hm]; exact mix_at5 f s h
  have HM6 : Hid (m.atime = if f 6 then s.atime else h.atime) := by rw [hm]; exact mix_at6 f s h
  have HM7 : Hid (m.mtime = if f 7 then s.mtime else h.mtime) := by rw [hm]; exact mix_at7 f s h
  have HM8 : Hid (m.len = if f 8 then s.len else h.len) := by rw [hm]; exact mix_at8 f s h
  have HM9 : Hid (m.name = if f 9 then s.name else h.name) := by rw [hm]; exact mix_at9 f s h
  have HM10 : Hid (m.uid = if f 10 then s.uid else h.uid) := by rw [hm]; exact mix_at10 f s h
  have HM11 : Hid (m.gid = if f 11 then s.gid else h.gid) := by rw [hm]; exact mix_at11 f s h
  have HM12 : Hid (m.muid = if f 12 then s.muid else h.muid) := by rw [hm]; exact mix_at12 f s h
  have D1 := Lib.hid C1
  have D2 := Lib.hid C2
  have D3 := Lib.hid C3
  have D4 := Lib.hid C4
  have D5 := Lib.hid C5
  have D6 := Lib.hid C6
  have D7 := Lib.hid C7
  have Q1 := Lib.hid P1
  have Q2 := Lib.hid P2
  have Q3 := Lib.hid P3
  clear C1 C2 C3 C4 C5 C6 C7 P1 P2 P3 hag ht hm hf MO
  have SO := Lib.hid so
  have HO := Lib.hid ho
  clear so ho
  have I0 : Hid (Two w s h ((w.alloc (.cells s.cells 31 (0, 0))).alloc (.cells h.cells 31 (0, 0)))) := ⟨two_old w _ _, two_new w _ _, ((Kept.refl [] _).alloc _).alloc _⟩
  unfold Rec.val at WS WH D1 D2 D3 D4 D5 D6 D7 Q1 Q2 Q3 ⊢
  unfold Rec.cells at WS WH I0 D1 D2 D3 D4 D5 D6 D7 Q1 Q2 Q3 ⊢
  go_enter Try.func7, Try.ntmps7
  go_wp2_with fail
  refine (awake_any _).mono ?_
  rintro e w1 ⟨rfl, k1⟩
  have I1 := Lib.hid (I0.out.pure k1)
  clear k1 I0
  obtain ⟨c0, c1, c2, c3, c4, c5, c6, c7, c8, c9, c10, c11, c12⟩ := I1.out.a.cells
  obtain ⟨d0, d1, d2, d3, d4, d5, d6, d7, d8, d9, d10, d11, d12⟩ := I1.out.b.cells
  have I1d : Hid (Two w s h w1.drew) := I1.out.pure ((Kept.refl [] _).drew)
  have e1 : IntKind.i64.wrap ((z1 : Int) + (z2 : Int)) = (z1 : Int) + (z2 : Int) := IntWalk.i64_in _ ⟨by omega, by omega⟩
  go_upto_region 2 with fail
  go_cut [28] (fun s28 wx => ∃ q : Bool, s28 = .bool q ∧ Hid (Two w s h wx))
  case first =>
    go_region_with (first | (go_at_call 9; (with_reducible refine (WS.out _).mono ?_); rintro e w2 ⟨rfl, k2⟩; have I2 := Lib.hid (I1d.out.pure k2); obtain ⟨e0, e1, e2, e3, e4, e5, e6, e7, e8, e9, e10, e11, e12⟩ := I2.out.b.cells; clear k2) | (go_at_call 9; (with_reducible refine (WH.out _).mono ?_); rintro e w3 ⟨rfl, k3⟩; have I3 := Lib.hid (I2.out.pure k3); clear k3))
    all_goals (go_wp2_with fail; go_meet; exact ⟨_, rfl, I3⟩)
  case rest =>
    obtain ⟨q, rfl, I3⟩ := hcut
    cases q with
    | true =>
      go_wp2_with fail
      go_ret
      exact ⟨rfl, I3.out.kept⟩
    | false =>
      go_wp2_with fail
      refine (KP.out _).mono ?_
      rintro e w4 ⟨rfl, k4⟩
      have I4 : Hid (Two w s h (w4.alloc (.cells #[.int .u16 65535, .int .u32 4294967295, .int .u8 255, .int .u32 4294967295, .int .u64 18446744073709551615, .int .u32 4294967295, .int .u32 4294967295, .int .u32 4294967295, .int .u64 18446744073709551615, .string ⟨#[]⟩, .string ⟨#[]⟩, .string ⟨#[]⟩, .string ⟨#[]⟩] 31 (0, 0)))) := (I3.out.pure k4).pure ((Kept.refl [] _).alloc _)
      have L4 : Hid ((w4.alloc (.cells #[.int .u16 65535, .int .u32 4294967295, .int .u8 255, .int .u32 4294967295, .int .u64 18446744073709551615, .int .u32 4294967295, .int .u32 4294967295, .int .u32 4294967295, .int .u64 18446744073709551615, .string ⟨#[]⟩, .string ⟨#[]⟩, .string ⟨#[]⟩, .string ⟨#[]⟩] 31 (0, 0))).heap[w4.heap.size]? = some (.cells #[.int .u16 65535, .int .u32 4294967295, .int .u8 255, .int .u32 4294967295, .int .u64 18446744073709551615, .int .u32 4294967295, .int .u32 4294967295, .int .u32 4294967295, .int .u64 18446744073709551615, .string ⟨#[]⟩, .string ⟨#[]⟩, .string ⟨#[]⟩, .string ⟨#[]⟩] 31 (0, 0))) := heap_alloc_new w4 _
      clear k4 I3 KP
      obtain ⟨d0, d1, d2, d3, d4, d5, d6, d7, d8, d9, d10, d11, d12⟩ := I4.out.b.cells
      go_wp2_with fail
      refine (D1.out _).mono ?_
      rintro e w5 ⟨rfl, k5⟩
      have I5 := Lib.hid (I4.out.pure k5)
      have L5 : Hid (w5.heap[w4.heap.size]? = some (.cells #[.int .u16 65535, .int .u32 4294967295, .int .u8 255, .int .u32 4294967295, .int .u64 18446744073709551615, .int .u32 4294967295, .int .u32 4294967295, .int .u32 4294967295, .int .u64 18446744073709551615, .string ⟨#[]⟩, .string ⟨#[]⟩, .string ⟨#[]⟩, .string ⟨#[]⟩] 31 (0, 0))) := (k5.block _ (block_lt L4.out) (by simp)).trans L4.out
      clear k5 I4 L4 D1
      clear d0 d1 d2 d3 d4 d5 d6 d7 d8 d9 d10 d11 d12
      obtain ⟨c0, c1, c2, c3, c4, c5, c6, c7, c8, c9, c10, c11, c12, -⟩ := thirteen L5.out
      obtain ⟨d0, d1, d2, d3, d4, d5, d6, d7, d8, d9, d10, d11, d12⟩ := I5.out.b.cells
      go_wp2_with fail
      refine (D2.out _).mono ?_
      rintro e w6 ⟨rfl, k6⟩
      have I6 : Hid (Two w s h (w6.alloc (.cells #[.int .u16 h.ty, .int .u32 h.dev, .int .u8 h.kind, .int .u32 h.vers, .int .u64 h.path, .int .u32 h.mode, .int .u32 h.atime, .int .u32 h.mtime, .int .u64 h.len, .string h.name, .string h.uid, .string h.gid, .string h.muid] 31 (0, 0)))) := (I5.out.pure k6).pure ((Kept.refl [] _).alloc _)
      have L6 : Hid (Lies (w6.alloc (.cells #[.int .u16 h.ty, .int .u32 h.dev, .int .u8 h.kind, .int .u32 h.vers, .int .u64 h.path, .int .u32 h.mode, .int .u32 h.atime, .int .u32 h.mtime, .int .u64 h.len, .string h.name, .string h.uid, .string h.gid, .string h.muid] 31 (0, 0))) w6.heap.size h) := heap_alloc_new w6 _
      clear k6 I5 L5 D2
      clear c0 c1 c2 c3 c4 c5 c6 c7 c8 c9 c10 c11 c12 d0 d1 d2 d3 d4 d5 d6 d7 d8 d9 d10 d11 d12
      obtain ⟨d0, d1, d2, d3, d4, d5, d6, d7, d8, d9, d10, d11, d12⟩ := I6.out.b.cells
      go_wp2_with fail
      refine (D3.out _).mono ?_
      rintro e w7 ⟨rfl, k7⟩
      have I7 := Lib.hid (I6.out.pure k7)
      have L7 := Lib.hid (L6.out.kept k7 (by simp))
      clear k7 I6 L6 D3
      clear d0 d1 d2 d3 d4 d5 d6 d7 d8 d9 d10 d11 d12
      obtain ⟨c0, c1, c2, c3, c4, c5, c6, c7, c8, c9, c10, c11, c12⟩ := I7.out.a.cells
      obtain ⟨d0, d1, d2, d3, d4, d5, d6, d7, d8, d9, d10, d11, d12⟩ := I7.out.b.cells
      obtain ⟨e0, e1, e2, e3, e4, e5, e6, e7, e8, e9, e10, e11, e12⟩ := L7.out.cells
      go_wp2_with fail
      as_aux_lemma =>
        refine (D4.out _).mono ?_
        rintro e w8 ⟨rfl, k8⟩
        have I8 := Lib.hid (I7.out.pure k8)
        clear k8 I7 L7 D4
        clear c0 c1 c2 c3 c4 c5 c6 c7 c8 c9 c10 c11 c12 d0 d1 d2 d3 d4 d5 d6 d7 d8 d9 d10 d11 d12 e0 e1 e2 e3 e4 e5 e6 e7 e8 e9 e10 e11 e12
        obtain ⟨c0, c1, c2, c3, c4, c5, c6, c7, c8, c9, c10, c11, c12⟩ := I8.out.a.cells
        obtain ⟨d0, d1, d2, d3, d4, d5, d6, d7, d8, d9, d10, d11, d12⟩ := I8.out.b.cells
        go_wp2_with fail
        refine (D5.out _).mono ?_
        rintro e w9 ⟨rfl, k9⟩
        have I9 : Hid (Two w s h (w9.alloc (.cells #[.int .u16 m.ty, .int .u32 m.dev, .int .u8 m.kind, .int .u32 m.vers, .int .u64 m.path, .int .u32 m.mode, .int .u32 m.atime, .int .u32 m.mtime, .int .u64 m.len, .string m.name, .string m.uid, .string m.gid, .string m.muid] 31 (0, 0)))) := (I8.out.pure k9).pure ((Kept.refl [] _).alloc _)
        have N9 : Hid (Lies (w9.alloc (.cells #[.int .u16 m.ty, .int .u32 m.dev, .int .u8 m.kind, .int .u32 m.vers, .int .u64 m.path, .int .u32 m.mode, .int .u32 m.atime, .int .u32 m.mtime, .int .u64 m.len, .string m.name, .string m.uid, .string m.gid, .string m.muid] 31 (0, 0))) w9.heap.size m) := heap_alloc_new w9 _
        clear k9 I8 D5
        clear c0 c1 c2 c3 c4 c5 c6 c7 c8 c9 c10 c11 c12 d0 d1 d2 d3 d4 d5 d6 d7 d8 d9 d10 d11 d12
        obtain ⟨c0, c1, c2, c3, c4, c5, c6, c7, c8, c9, c10, c11, c12⟩ := I9.out.a.cells
        obtain ⟨e0, e1, e2, e3, e4, e5, e6, e7, e8, e9, e10, e11, e12⟩ := N9.out.cells
        go_wp2_with fail
        as_aux_lemma =>
          refine (D6.out _).mono ?_
          rintro e w10 ⟨rfl, k10⟩
          have I10 := Lib.hid (I9.out.pure k10)
          have N10 := Lib.hid (N9.out.kept k10 (by simp))
          clear k10 I9 N9 D6
          clear c0 c1 c2 c3 c4 c5 c6 c7 c8 c9 c10 c11 c12 e0 e1 e2 e3 e4 e5 e6 e7 e8 e9 e10 e11 e12
          obtain ⟨c0, c1, c2, c3, c4, c5, c6, c7, c8, c9, c10, c11, c12⟩ := I10.out.a.cells
          obtain ⟨e0, e1, e2, e3, e4, e5, e6, e7, e8, e9, e10, e11, e12⟩ := N10.out.cells
          go_wp2_with fail
          refine (D7.out _).mono ?_
          rintro e w11 ⟨rfl, k11⟩
          have I11 : Hid (Two w s h (w11.alloc (.cells #[.int .u16 m.ty, .int .u32 m.dev, .int .u8 m.kind, .int .u32 m.vers, .int .u64 m.path, .int .u32 m.mode, .int .u32 m.atime, .int .u32 m.mtime, .int .u64 m.len, .string m.name, .string m.uid, .string m.gid, .string m.muid] 31 (0, 0)))) := (I10.out.pure k11).pure ((Kept.refl [] _).alloc _)
          have N11 : Hid (Lies (w11.alloc (.cells #[.int .u16 m.ty, .int .u32 m.dev, .int .u8 m.kind, .int .u32 m.vers, .int .u64 m.path, .int .u32 m.mode, .int .u32 m.atime, .int .u32 m.mtime, .int .u64 m.len, .string m.name, .string m.uid, .string m.gid, .string m.muid] 31 (0, 0))) w9.heap.size m) := (N10.out.kept k11 (by simp)).kept ((Kept.refl [] _).alloc _) (by simp)
          clear k11 I10 N10 D7
          clear c0 c1 c2 c3 c4 c5 c6 c7 c8 c9 c10 c11 c12 e0 e1 e2 e3 e4 e5 e6 e7 e8 e9 e10 e11 e12
          obtain ⟨c0, c1, c2, c3, c4, c5, c6, c7, c8, c9, c10, c11, c12⟩ := I11.out.a.cells
          obtain ⟨e0, e1, e2, e3, e4, e5, e6, e7, e8, e9, e10, e11, e12⟩ := N11.out.cells
          go_wp2_with fail
          as_aux_lemma =>
            refine (Q1.out _).mono ?_
            rintro e w12 ⟨rfl, x1, x2, k12⟩
            obtain ⟨pa, hpa⟩ : ∃ b, b = (w11.alloc (.cells #[.int .u16 m.ty, .int .u32 m.dev, .int .u8 m.kind, .int .u32 m.vers, .int .u64 m.path, .int .u32 m.mode, .int .u32 m.atime, .int .u32 m.mtime, .int .u64 m.len, .string m.name, .string m.uid, .string m.gid, .string m.muid] 31 (0, 0))).heap.size := ⟨_, rfl⟩
            rw [← hpa] at x1 x2 ⊢
            have I12 := Lib.hid (I11.out.pure k12)
            have N12 := Lib.hid (N11.out.kept k12 (by simp))
            clear k12 I11 N11 Q1 hpa
            clear c0 c1 c2 c3 c4 c5 c6 c7 c8 c9 c10 c11 c12 e0 e1 e2 e3 e4 e5 e6 e7 e8 e9 e10 e11 e12
            obtain ⟨d0, d1, d2, d3, d4, d5, d6, d7, d8, d9, d10, d11, d12⟩ := I12.out.b.cells
            go_wp2_with fail
            refine (Q2.out _).mono ?_
            rintro e w13 ⟨rfl, y1, y2, k13⟩
            obtain ⟨pb, hpb⟩ : ∃ b, b = w12.heap.size := ⟨_, rfl⟩
            rw [← hpb] at y1 y2 ⊢
            have I13 := Lib.hid (I12.out.pure k13)
            have N13 := Lib.hid (N12.out.kept k13 (by simp))
            have x1' := Lib.hid ((k13.block _ (block_lt x1.out) (by simp)).trans x1.out)
            have x2' := Lib.hid ((k13.block _ (block_lt x2.out) (by simp)).trans x2.out)
            clear k13 I12 N12 Q2 hpb x1 x2
            clear d0 d1 d2 d3 d4 d5 d6 d7 d8 d9 d10 d11 d12
            obtain ⟨e0, e1, e2, e3, e4, e5, e6, e7, e8, e9, e10, e11, e12⟩ := N13.out.cells
            go_wp2_with fail
            refine (Q3.out _).mono ?_
            rintro e w14 ⟨rfl, v1, v2, k14⟩
            obtain ⟨pc, hpc⟩ : ∃ b, b = w13.heap.size := ⟨_, rfl⟩
            rw [← hpc] at v1 v2 ⊢
            have I14 := Lib.hid (I13.out.pure k14)
            have x1 := Lib.hid ((k14.block _ (block_lt x1'.out) (by simp)).trans x1'.out)
            have x2 := Lib.hid ((k14.block _ (block_lt x2'.out) (by simp)).trans x2'.out)
            have y1' := Lib.hid ((k14.block _ (block_lt y1.out) (by simp)).trans y1.out)
            have y2' := Lib.hid ((k14.block _ (block_lt y2.out) (by simp)).trans y2.out)
            clear k14 I13 N13 Q3 hpc x1' x2' y1 y2
            clear e0 e1 e2 e3 e4 e5 e6 e7 e8 e9 e10 e11 e12
            go_wp2_with fail
            have S0 : Hid (Six w pa pb pc s h m w14) := ⟨x1.out, x2.out, y1'.out, y2'.out, v1.out, v2.out, I14.out.kept⟩
            clear x1 x2 y1' y2' v1 v2 I14
            as_aux_lemma =>
              go_loopw [20] (fun iv' wr => ∃ i : Nat, i ≤ 13 ∧ iv' = .int .i64 i ∧ Hid (Six w pa pb pc s h m wr)) (fun iv' _ => 13 - (intOf iv').toNat)
              case atStart => exact ⟨0, by omega, rfl, S0⟩
              case round =>
                clear S0
                obtain ⟨i, hi, rfl, S⟩ := hrel
                obtain rfl | rfl | rfl | rfl | rfl | rfl | rfl | rfl | rfl | rfl | rfl | rfl | rfl | rfl : i = 0 ∨ i = 1 ∨ i = 2 ∨ i = 3 ∨ i = 4 ∨ i = 5 ∨ i = 6 ∨ i = 7 ∨ i = 8 ∨ i = 9 ∨ i = 10 ∨ i = 11 ∨ i = 12 ∨ i = 13 := by omega
                · as_aux_lemma =>
                    have gg := S.out.cell 0
                    have hbit := HT.out 0 (by decide)
                    have hmk := HM0.out
                    cases hfk : f 0 with
                    | true =>
                      have hne : ((s.ty : Int) == (h.ty : Int)) = false := HNE.out 0 hfk
                      rw [hfk] at hbit hmk
                      simp only [if_true] at hbit hmk
                      have hq : (t : Int) % 2 = 1 := by simp at hbit; omega
                      clear hfk
                      have a1 : wr.cell? ⟨pa + 1, 0, none⟩ = some (.int .u64 s.ty) := gg.1
                      have a2 : wr.cell? ⟨pa + 2, 0, none⟩ = some (.string ⟨#[]⟩) := gg.2.1
                      have b1 : wr.cell? ⟨pb + 1, 0, none⟩ = some (.int .u64 h.ty) := gg.2.2.1
                      have b2 : wr.cell? ⟨pb + 2, 0, none⟩ = some (.string ⟨#[]⟩) := gg.2.2.2.1
                      have c1 : wr.cell? ⟨pc + 1, 0, none⟩ = some (.int .u64 s.ty) := by rw [← hmk]; exact gg.2.2.2.2.1
                      have c2 : wr.cell? ⟨pc + 2, 0, none⟩ = some (.string ⟨#[]⟩) := by exact gg.2.2.2.2.2
                      clear gg hmk hbit
                      go_wp2_with fail
                      go_quiet (fail)
                      go_wp2_with fail
                      go_quiet (fail)
                      go_wp2_with fail
                      go_roundw
                      case rel => exact ⟨1, by omega, rfl, by first | exact S.out.pure (((Kept.refl _ _).drewN _).drewN _) | exact S.out.pure ((Kept.refl _ _).drewN _)⟩
                      case measure => decide
                    | false =>
                      rw [hfk] at hbit hmk
                      simp only [Bool.false_eq_true, if_false] at hbit hmk
                      have hq : (t : Int) % 2 = 0 := by simp at hbit; omega
                      clear hfk
                      have a1 : wr.cell? ⟨pa + 1, 0, none⟩ = some (.int .u64 s.ty) := gg.1
                      have a2 : wr.cell? ⟨pa + 2, 0, none⟩ = some (.string ⟨#[]⟩) := gg.2.1
                      have b1 : wr.cell? ⟨pb + 1, 0, none⟩ = some (.int .u64 h.ty) := gg.2.2.1
                      have b2 : wr.cell? ⟨pb + 2, 0, none⟩ = some (.string ⟨#[]⟩) := gg.2.2.2.1
                      have c1 : wr.cell? ⟨pc + 1, 0, none⟩ = some (.int .u64 h.ty) := by rw [← hmk]; exact gg.2.2.2.2.1
                      have c2 : wr.cell? ⟨pc + 2, 0, none⟩ = some (.string ⟨#[]⟩) := by exact gg.2.2.2.2.2
                      clear gg hmk hbit
                      go_wp2_with fail
                      go_quiet (fail)
                      go_wp2_with fail
                      go_quiet (fail)
                      go_wp2_with fail
                      go_roundw
                      case rel => exact ⟨1, by omega, rfl, by first | exact S.out.pure (((Kept.refl _ _).drewN _).drewN _) | exact S.out.pure ((Kept.refl _ _).drewN _)⟩
                      case measure => decide
                · as_aux_lemma =>
                    have gg := S.out.cell 1
                    have hbit := HT.out 1 (by decide)
                    have hmk := HM1.out
                    cases hfk : f 1 with
                    | true =>
                      have hne : ((s.dev : Int) == (h.dev : Int)) = false := HNE.out 1 hfk
                      rw [hfk] at hbit hmk
                      simp only [if_true] at hbit hmk
                      have hq : (t : Int) / 2 % 2 = 1 := by omega
                      clear hfk
                      have a1 : wr.cell? ⟨pa + 1, 1, none⟩ = some (.int .u64 s.dev) := gg.1
                      have a2 : wr.cell? ⟨pa + 2, 1, none⟩ = some (.string ⟨#[]⟩) := gg.2.1
                      have b1 : wr.cell? ⟨pb + 1, 1, none⟩ = some (.int .u64 h.dev) := gg.2.2.1
                      have b2 : wr.cell? ⟨pb + 2, 1, none⟩ = some (.string ⟨#[]⟩) := gg.2.2.2.1
                      have c1 : wr.cell? ⟨pc + 1, 1, none⟩ = some (.int .u64 s.dev) := by rw [← hmk]; exact gg.2.2.2.2.1
                      have c2 : wr.cell? ⟨pc + 2, 1, none⟩ = some (.string ⟨#[]⟩) := by exact gg.2.2.2.2.2
                      clear gg hmk hbit
                      go_wp2_with fail
                      go_quiet (fail)
                      go_wp2_with fail
                      go_quiet (fail)
                      go_wp2_with fail
                      go_roundw
                      case rel => exact ⟨2, by omega, rfl, by first | exact S.out.pure (((Kept.refl _ _).drewN _).drewN _) | exact S.out.pure ((Kept.refl _ _).drewN _)⟩
                      case measure => decide
                    | false =>
                      rw [hfk] at hbit hmk
                      simp only [Bool.false_eq_true, if_false] at hbit hmk
                      have hq : (t : Int) / 2 % 2 = 0 := by omega
                      clear hfk
                      have a1 : wr.cell? ⟨pa + 1, 1, none⟩ = some (.int .u64 s.dev) := gg.1
                      have a2 : wr.cell? ⟨pa + 2, 1, none⟩ = some (.string ⟨#[]⟩) := gg.2.1
                      have b1 : wr.cell? ⟨pb + 1, 1, none⟩ = some (.int .u64 h.dev) := gg.2.2.1
                      have b2 : wr.cell? ⟨pb + 2, 1, none⟩ = some (.string ⟨#[]⟩) := gg.2.2.2.1
                      have c1 : wr.cell? ⟨pc + 1, 1, none⟩ = some (.int .u64 h.dev) := by rw [← hmk]; exact gg.2.2.2.2.1
                      have c2 : wr.cell? ⟨pc + 2, 1, none⟩ = some (.string ⟨#[]⟩) := by exact gg.2.2.2.2.2
                      clear gg hmk hbit
                      go_wp2_with fail
                      go_quiet (fail)
                      go_wp2_with fail
                      go_quiet (fail)
                      go_wp2_with fail
                      go_roundw
                      case rel => exact ⟨2, by omega, rfl, by first | exact S.out.pure (((Kept.refl _ _).drewN _).drewN _) | exact S.out.pure ((Kept.refl _ _).drewN _)⟩
                      case measure => decide
                · as_aux_lemma =>
                    have gg := S.out.cell 2
                    have hbit := HT.out 2 (by decide)
                    have hmk := HM2.out
                    cases hfk : f 2 with
                    | true =>
                      have hne : ((s.kind : Int) == (h.kind : Int)) = false := HNE.out 2 hfk
                      rw [hfk] at hbit hmk
                      simp only [if_true] at hbit hmk
                      have hq : (t : Int) / 4 % 2 = 1 := by omega
                      clear hfk
                      have a1 : wr.cell? ⟨pa + 1, 2, none⟩ = some (.int .u64 s.kind) := gg.1
                      have a2 : wr.cell? ⟨pa + 2, 2, none⟩ = some (.string ⟨#[]⟩) := gg.2.1
                      have b1 : wr.cell? ⟨pb + 1, 2, none⟩ = some (.int .u64 h.kind) := gg.2.2.1
                      have b2 : wr.cell? ⟨pb + 2, 2, none⟩ = some (.string ⟨#[]⟩) := gg.2.2.2.1
                      have c1 : wr.cell? ⟨pc + 1, 2, none⟩ = some (.int .u64 s.kind) := by rw [← hmk]; exact gg.2.2.2.2.1
                      have c2 : wr.cell? ⟨pc + 2, 2, none⟩ = some (.string ⟨#[]⟩) := by exact gg.2.2.2.2.2
                      clear gg hmk hbit
                      go_wp2_with fail
                      go_quiet (fail)
                      go_wp2_with fail
                      go_quiet (fail)
                      go_wp2_with fail
                      go_roundw
                      case rel => exact ⟨3, by omega, rfl, by first | exact S.out.pure (((Kept.refl _ _).drewN _).drewN _) | exact S.out.pure ((Kept.refl _ _).drewN _)⟩
                      case measure => decide
                    | false =>
                      rw [hfk] at hbit hmk
                      simp only [Bool.false_eq_true, if_false] at hbit hmk
                      have hq : (t : Int) / 4 % 2 = 0 := by omega
                      clear hfk
                      have a1 : wr.cell? ⟨pa + 1, 2, none⟩ = some (.int .u64 s.kind) := gg.1
                      have a2 : wr.cell? ⟨pa + 2, 2, none⟩ = some (.string ⟨#[]⟩) := gg.2.1
                      have b1 : wr.cell? ⟨pb + 1, 2, none⟩ = some (.int .u64 h.kind) := gg.2.2.1
                      have b2 : wr.cell? ⟨pb + 2, 2, none⟩ = some (.string ⟨#[]⟩) := gg.2.2.2.1
                      have c1 : wr.cell? ⟨pc + 1, 2, none⟩ = some (.int .u64 h.kind) := by rw [← hmk]; exact gg.2.2.2.2.1
                      have c2 : wr.cell? ⟨pc + 2, 2, none⟩ = some (.string ⟨#[]⟩) := by exact gg.2.2.2.2.2
                      clear gg hmk hbit
                      go_wp2_with fail
                      go_quiet (fail)
                      go_wp2_with fail
                      go_quiet (fail)
                      go_wp2_with fail
                      go_roundw
                      case rel => exact ⟨3, by omega, rfl, by first | exact S.out.pure (((Kept.refl _ _).drewN _).drewN _) | exact S.out.pure ((Kept.refl _ _).drewN _)⟩
                      case measure => decide
                · as_aux_lemma =>
                    have gg := S.out.cell 3
                    have hbit := HT.out 3 (by decide)
                    have hmk := HM3.out
                    cases hfk : f 3 with
                    | true =>
                      have hne : ((s.vers : Int) == (h.vers : Int)) = false := HNE.out 3 hfk
                      rw [hfk] at hbit hmk
                      simp only [if_true] at hbit hmk
                      have hq : (t : Int) / 8 % 2 = 1 := by omega
                      clear hfk
                      have a1 : wr.cell? ⟨pa + 1, 3, none⟩ = some (.int .u64 s.vers) := gg.1
                      have a2 : wr.cell? ⟨pa + 2, 3, none⟩ = some (.string ⟨#[]⟩) := gg.2.1
                      have b1 : wr.cell? ⟨pb + 1, 3, none⟩ = some (.int .u64 h.vers) := gg.2.2.1
                      have b2 : wr.cell? ⟨pb + 2, 3, none⟩ = some (.string ⟨#[]⟩) := gg.2.2.2.1
                      have c1 : wr.cell? ⟨pc + 1, 3, none⟩ = some (.int .u64 s.vers) := by rw [← hmk]; exact gg.2.2.2.2.1
                      have c2 : wr.cell? ⟨pc + 2, 3, none⟩ = some (.string ⟨#[]⟩) := by exact gg.2.2.2.2.2
                      clear gg hmk hbit
                      go_wp2_with fail
                      go_quiet (fail)
                      go_wp2_with fail
                      go_quiet (fail)
                      go_wp2_with fail
                      go_roundw
                      case rel => exact ⟨4, by omega, rfl, by first | exact S.out.pure (((Kept.refl _ _).drewN _).drewN _) | exact S.out.pure ((Kept.refl _ _).drewN _)⟩
                      case measure => decide
                    | false =>
                      rw [hfk] at hbit hmk
                      simp only [Bool.false_eq_true, if_false] at hbit hmk
                      have hq : (t : Int) / 8 % 2 = 0 := by omega
                      clear hfk
                      have a1 : wr.cell? ⟨pa + 1, 3, none⟩ = some (.int .u64 s.vers) := gg.1
                      have a2 : wr.cell? ⟨pa + 2, 3, none⟩ = some (.string ⟨#[]⟩) := gg.2.1
                      have b1 : wr.cell? ⟨pb + 1, 3, none⟩ = some (.int .u64 h.vers) := gg.2.2.1
                      have b2 : wr.cell? ⟨pb + 2, 3, none⟩ = some (.string ⟨#[]⟩) := gg.2.2.2.1
                      have c1 : wr.cell? ⟨pc + 1, 3, none⟩ = some (.int .u64 h.vers) := by rw [← hmk]; exact gg.2.2.2.2.1
                      have c2 : wr.cell? ⟨pc + 2, 3, none⟩ = some (.string ⟨#[]⟩) := by exact gg.2.2.2.2.2
                      clear gg hmk hbit
                      go_wp2_with fail
                      go_quiet (fail)
                      go_wp2_with fail
                      go_quiet (fail)
                      go_wp2_with fail
                      go_roundw
                      case rel => exact ⟨4, by omega, rfl, by first | exact S.out.pure (((Kept.refl _ _).drewN _).drewN _) | exact S.out.pure ((Kept.refl _ _).drewN _)⟩
                      case measure => decide
                · as_aux_lemma =>
                    have gg := S.out.cell 4
                    have hbit := HT.out 4 (by decide)
                    have hmk := HM4.out
                    cases hfk : f 4 with
                    | true =>
                      have hne : ((s.path : Int) == (h.path : Int)) = false := HNE.out 4 hfk
                      rw [hfk] at hbit hmk
                      simp only [if_true] at hbit hmk
                      have hq : (t : Int) / 16 % 2 = 1 := by omega
                      clear hfk
                      have a1 : wr.cell? ⟨pa + 1, 4, none⟩ = some (.int .u64 s.path) := gg.1
                      have a2 : wr.cell? ⟨pa + 2, 4, none⟩ = some (.string ⟨#[]⟩) := gg.2.1
                      have b1 : wr.cell? ⟨pb + 1, 4, none⟩ = some (.int .u64 h.path) := gg.2.2.1
                      have b2 : wr.cell? ⟨pb + 2, 4, none⟩ = some (.string ⟨#[]⟩) := gg.2.2.2.1
                      have c1 : wr.cell? ⟨pc + 1, 4, none⟩ = some (.int .u64 s.path) := by rw [← hmk]; exact gg.2.2.2.2.1
                      have c2 : wr.cell? ⟨pc + 2, 4, none⟩ = some (.string ⟨#[]⟩) := by exact gg.2.2.2.2.2
                      clear gg hmk hbit
                      go_wp2_with fail
                      go_quiet (fail)
                      go_wp2_with fail
                      go_quiet (fail)
                      go_wp2_with fail
                      go_roundw
                      case rel => exact ⟨5, by omega, rfl, by first | exact S.out.pure (((Kept.refl _ _).drewN _).drewN _) | exact S.out.pure ((Kept.refl _ _).drewN _)⟩
                      case measure => decide
                    | false =>
                      rw [hfk] at hbit hmk
                      simp only [Bool.false_eq_true, if_false] at hbit hmk
                      have hq : (t : Int) / 16 % 2 = 0 := by omega
                      clear hfk
                      have a1 : wr.cell? ⟨pa + 1, 4, none⟩ = some (.int .u64 s.path) := gg.1
                      have a2 : wr.cell? ⟨pa + 2, 4, none⟩ = some (.string ⟨#[]⟩) := gg.2.1
                      have b1 : wr.cell? ⟨pb + 1, 4, none⟩ = some (.int .u64 h.path) := gg.2.2.1
                      have b2 : wr.cell? ⟨pb + 2, 4, none⟩ = some (.string ⟨#[]⟩) := gg.2.2.2.1
                      have c1 : wr.cell? ⟨pc + 1, 4, none⟩ = some (.int .u64 h.path) := by rw [← hmk]; exact gg.2.2.2.2.1
                      have c2 : wr.cell? ⟨pc + 2, 4, none⟩ = some (.string ⟨#[]⟩) := by exact gg.2.2.2.2.2
                      clear gg hmk hbit
                      go_wp2_with fail
                      go_quiet (fail)
                      go_wp2_with fail
                      go_quiet (fail)
                      go_wp2_with fail
                      go_roundw
                      case rel => exact ⟨5, by omega, rfl, by first | exact S.out.pure (((Kept.refl _ _).drewN _).drewN _) | exact S.out.pure ((Kept.refl _ _).drewN _)⟩
                      case measure => decide
                · as_aux_lemma =>
                    have gg := S.out.cell 5
                    have hbit := HT.out 5 (by decide)
                    have hmk := HM5.out
                    cases hfk : f 5 with
                    | true =>
                      have hne : ((s.mode : Int) == (h.mode : Int)) = false := HNE.out 5 hfk
                      rw [hfk] at hbit hmk
                      simp only [if_true] at hbit hmk
                      have hq : (t : Int) / 32 % 2 = 1 := by omega
                      clear hfk
                      have a1 : wr.cell? ⟨pa + 1, 5, none⟩ = some (.int .u64 s.mode) := gg.1
                      have a2 : wr.cell? ⟨pa + 2, 5, none⟩ = some (.string ⟨#[]⟩) := gg.2.1
                      have b1 : wr.cell? ⟨pb + 1, 5, none⟩ = some (.int .u64 h.mode) := gg.2.2.1
                      have b2 : wr.cell? ⟨pb + 2, 5, none⟩ = some (.string ⟨#[]⟩) := gg.2.2.2.1
                      have c1 : wr.cell? ⟨pc + 1, 5, none⟩ = some (.int .u64 s.mode) := by rw [← hmk]; exact gg.2.2.2.2.1
                      have c2 : wr.cell? ⟨pc + 2, 5, none⟩ = some (.string ⟨#[]⟩) := by exact gg.2.2.2.2.2
                      clear gg hmk hbit
                      go_wp2_with fail
                      go_quiet (fail)
                      go_wp2_with fail
                      go_quiet (fail)
                      go_wp2_with fail
                      go_roundw
                      case rel => exact ⟨6, by omega, rfl, by first | exact S.out.pure (((Kept.refl _ _).drewN _).drewN _) | exact S.out.pure ((Kept.refl _ _).drewN _)⟩
                      case measure => decide
                    | false =>
                      rw [hfk] at hbit hmk
                      simp only [Bool.false_eq_true, if_false] at hbit hmk
                      have hq : (t : Int) / 32 % 2 = 0 := by omega
                      clear hfk
                      have a1 : wr.cell? ⟨pa + 1, 5, none⟩ = some (.int .u64 s.mode) := gg.1
                      have a2 : wr.cell? ⟨pa + 2, 5, none⟩ = some (.string ⟨#[]⟩) := gg.2.1
                      have b1 : wr.cell? ⟨pb + 1, 5, none⟩ = some (.int .u64 h.mode) := gg.2.2.1
                      have b2 : wr.cell? ⟨pb + 2, 5, none⟩ = some (.string ⟨#[]⟩) := gg.2.2.2.1
                      have c1 : wr.cell? ⟨pc + 1, 5, none⟩ = some (.int .u64 h.mode) := by rw [← hmk]; exact gg.2.2.2.2.1
                      have c2 : wr.cell? ⟨pc + 2, 5, none⟩ = some (.string ⟨#[]⟩) := by exact gg.2.2.2.2.2
                      clear gg hmk hbit
                      go_wp2_with fail
                      go_quiet (fail)
                      go_wp2_with fail
                      go_quiet (fail)
                      go_wp2_with fail
                      go_roundw
                      case rel => exact ⟨6, by omega, rfl, by first | exact S.out.pure (((Kept.refl _ _).drewN _).drewN _) | exact S.out.pure ((Kept.refl _ _).drewN _)⟩
                      case measure => decide
                · as_aux_lemma =>
                    have gg := S.out.cell 6
                    have hbit := HT.out 6 (by decide)
                    have hmk := HM6.out
                    cases hfk : f 6 with
                    | true =>
                      have hne : ((s.atime : Int) == (h.atime : Int)) = false := HNE.out 6 hfk
                      rw [hfk] at hbit hmk
                      simp only [if_true] at hbit hmk
                      have hq : (t : Int) / 64 % 2 = 1 := by omega
                      clear hfk
                      have a1 : wr.cell? ⟨pa + 1, 6, none⟩ = some (.int .u64 s.atime) := gg.1
                      have a2 : wr.cell? ⟨pa + 2, 6, none⟩ = some (.string ⟨#[]⟩) := gg.2.1
                      have b1 : wr.cell? ⟨pb + 1, 6, none⟩ = some (.int .u64 h.atime) := gg.2.2.1
                      have b2 : wr.cell? ⟨pb + 2, 6, none⟩ = some (.string ⟨#[]⟩) := gg.2.2.2.1
                      have c1 : wr.cell? ⟨pc + 1, 6, none⟩ = some (.int .u64 s.atime) := by rw [← hmk]; exact gg.2.2.2.2.1
                      have c2 : wr.cell? ⟨pc + 2, 6, none⟩ = some (.string ⟨#[]⟩) := by exact gg.2.2.2.2.2
                      clear gg hmk hbit
                      go_wp2_with fail
                      go_quiet (fail)
                      go_wp2_with fail
                      go_quiet (fail)
                      go_wp2_with fail
                      go_roundw
                      case rel => exact ⟨7, by omega, rfl, by first | exact S.out.pure (((Kept.refl _ _).drewN _).drewN _) | exact S.out.pure ((Kept.refl _ _).drewN _)⟩
                      case measure => decide
                    | false =>
                      rw [hfk] at hbit hmk
                      simp only [Bool.false_eq_true, if_false] at hbit hmk
                      have hq : (t : Int) / 64 % 2 = 0 := by omega
                      clear hfk
                      have a1 : wr.cell? ⟨pa + 1, 6, none⟩ = some (.int .u64 s.atime) := gg.1
                      have a2 : wr.cell? ⟨pa + 2, 6, none⟩ = some (.string ⟨#[]⟩) := gg.2.1
                      have b1 : wr.cell? ⟨pb + 1, 6, none⟩ = some (.int .u64 h.atime) := gg.2.2.1
                      have b2 : wr.cell? ⟨pb + 2, 6, none⟩ = some (.string ⟨#[]⟩) := gg.2.2.2.1
                      have c1 : wr.cell? ⟨pc + 1, 6, none⟩ = some (.int .u64 h.atime) := by rw [← hmk]; exact gg.2.2.2.2.1
                      have c2 : wr.cell? ⟨pc + 2, 6, none⟩ = some (.string ⟨#[]⟩) := by exact gg.2.2.2.2.2
                      clear gg hmk hbit
                      go_wp2_with fail
                      go_quiet (fail)
                      go_wp2_with fail
                      go_quiet (fail)
                      go_wp2_with fail
                      go_roundw
                      case rel => exact ⟨7, by omega, rfl, by first | exact S.out.pure (((Kept.refl _ _).drewN _).drewN _) | exact S.out.pure ((Kept.refl _ _).drewN _)⟩
                      case measure => decide
                · as_aux_lemma =>
                    have gg := S.out.cell 7
                    have hbit := HT.out 7 (by decide)
                    have hmk := HM7.out
                    cases hfk : f 7 with
                    | true =>
                      have hne : ((s.mtime : Int) == (h.mtime : Int)) = false := HNE.out 7 hfk
                      rw [hfk] at hbit hmk
                      simp only [if_true] at hbit hmk
                      have hq : (t : Int) / 128 % 2 = 1 := by omega
                      clear hfk
                      have a1 : wr.cell? ⟨pa + 1, 7, none⟩ = some (.int .u64 s.mtime) := gg.1
                      have a2 : wr.cell? ⟨pa + 2, 7, none⟩ = some (.string ⟨#[]⟩) := gg.2.1
                      have b1 : wr.cell? ⟨pb + 1, 7, none⟩ = some (.int .u64 h.mtime) := gg.2.2.1
                      have b2 : wr.cell? ⟨pb + 2, 7, none⟩ = some (.string ⟨#[]⟩) := gg.2.2.2.1
                      have c1 : wr.cell? ⟨pc + 1, 7, none⟩ = some (.int .u64 s.mtime) := by rw [← hmk]; exact gg.2.2.2.2.1
                      have c2 : wr.cell? ⟨pc + 2, 7, none⟩ = some (.string ⟨#[]⟩) := by exact gg.2.2.2.2.2
                      clear gg hmk hbit
                      go_wp2_with fail
                      go_quiet (fail)
                      go_wp2_with fail
                      go_quiet (fail)
                      go_wp2_with fail
                      go_roundw
                      case rel => exact ⟨8, by omega, rfl, by first | exact S.out.pure (((Kept.refl _ _).drewN _).drewN _) | exact S.out.pure ((Kept.refl _ _).drewN _)⟩
                      case measure => decide
                    | false =>
                      rw [hfk] at hbit hmk
                      simp only [Bool.false_eq_true, if_false] at hbit hmk
                      have hq : (t : Int) / 128 % 2 = 0 := by omega
                      clear hfk
                      have a1 : wr.cell? ⟨pa + 1, 7, none⟩ = some (.int .u64 s.mtime) := gg.1
                      have a2 : wr.cell? ⟨pa + 2, 7, none⟩ = some (.string ⟨#[]⟩) := gg.2.1
                      have b1 : wr.cell? ⟨pb + 1, 7, none⟩ = some (.int .u64 h.mtime) := gg.2.2.1
                      have b2 : wr.cell? ⟨pb + 2, 7, none⟩ = some (.string ⟨#[]⟩) := gg.2.2.2.1
                      have c1 : wr.cell? ⟨pc + 1, 7, none⟩ = some (.int .u64 h.mtime) := by rw [← hmk]; exact gg.2.2.2.2.1
                      have c2 : wr.cell? ⟨pc + 2, 7, none⟩ = some (.string ⟨#[]⟩) := by exact gg.2.2.2.2.2
                      clear gg hmk hbit
                      go_wp2_with fail
                      go_quiet (fail)
                      go_wp2_with fail
                      go_quiet (fail)
                      go_wp2_with fail
                      go_roundw
                      case rel => exact ⟨8, by omega, rfl, by first | exact S.out.pure (((Kept.refl _ _).drewN _).drewN _) | exact S.out.pure ((Kept.refl _ _).drewN _)⟩
                      case measure => decide
                · as_aux_lemma =>
                    have gg := S.out.cell 8
                    have hbit := HT.out 8 (by decide)
                    have hmk := HM8.out
                    cases hfk : f 8 with
                    | true =>
                      have hne : ((s.len : Int) == (h.len : Int)) = false := HNE.out 8 hfk
                      rw [hfk] at hbit hmk
                      simp only [if_true] at hbit hmk
                      have hq : (t : Int) / 256 % 2 = 1 := by omega
                      clear hfk
                      have a1 : wr.cell? ⟨pa + 1, 8, none⟩ = some (.int .u64 s.len) := gg.1
                      have a2 : wr.cell? ⟨pa + 2, 8, none⟩ = some (.string ⟨#[]⟩) := gg.2.1
                      have b1 : wr.cell? ⟨pb + 1, 8, none⟩ = some (.int .u64 h.len) := gg.2.2.1
                      have b2 : wr.cell? ⟨pb + 2, 8, none⟩ = some (.string ⟨#[]⟩) := gg.2.2.2.1
                      have c1 : wr.cell? ⟨pc + 1, 8, none⟩ = some (.int .u64 s.len) := by rw [← hmk]; exact gg.2.2.2.2.1
                      have c2 : wr.cell? ⟨pc + 2, 8, none⟩ = some (.string ⟨#[]⟩) := by exact gg.2.2.2.2.2
                      clear gg hmk hbit
                      go_wp2_with fail
                      go_quiet (fail)
                      go_wp2_with fail
                      go_quiet (fail)
                      go_wp2_with fail
                      go_roundw
                      case rel => exact ⟨9, by omega, rfl, by first | exact S.out.pure (((Kept.refl _ _).drewN _).drewN _) | exact S.out.pure ((Kept.refl _ _).drewN _)⟩
                      case measure => decide
                    | false =>
                      rw [hfk] at hbit hmk
                      simp only [Bool.false_eq_true, if_false] at hbit hmk
                      have hq : (t : Int) / 256 % 2 = 0 := by omega
                      clear hfk
                      have a1 : wr.cell? ⟨pa + 1, 8, none⟩ = some (.int .u64 s.len) := gg.1
                      have a2 : wr.cell? ⟨pa + 2, 8, none⟩ = some (.string ⟨#[]⟩) := gg.2.1
                      have b1 : wr.cell? ⟨pb + 1, 8, none⟩ = some (.int .u64 h.len) := gg.2.2.1
                      have b2 : wr.cell? ⟨pb + 2, 8, none⟩ = some (.string ⟨#[]⟩) := gg.2.2.2.1
                      have c1 : wr.cell? ⟨pc + 1, 8, none⟩ = some (.int .u64 h.len) := by rw [← hmk]; exact gg.2.2.2.2.1
                      have c2 : wr.cell? ⟨pc + 2, 8, none⟩ = some (.string ⟨#[]⟩) := by exact gg.2.2.2.2.2
                      clear gg hmk hbit
                      go_wp2_with fail
                      go_quiet (fail)
                      go_wp2_with fail
                      go_quiet (fail)
                      go_wp2_with fail
                      go_roundw
                      case rel => exact ⟨9, by omega, rfl, by first | exact S.out.pure (((Kept.refl _ _).drewN _).drewN _) | exact S.out.pure ((Kept.refl _ _).drewN _)⟩
                      case measure => decide
                · as_aux_lemma =>
                    have gg := S.out.cell 9
                    have hbit := HT.out 9 (by decide)
                    have hmk := HM9.out
                    cases hfk : f 9 with
                    | true =>
                      have hne : (s.name.toList == h.name.toList) = false := HNE.out 9 hfk
                      rw [hfk] at hbit hmk
                      simp only [if_true] at hbit hmk
                      have hq : (t : Int) / 512 % 2 = 1 := by omega
                      clear hfk
                      have a1 : wr.cell? ⟨pa + 1, 9, none⟩ = some (.int .u64 0) := gg.1
                      have a2 : wr.cell? ⟨pa + 2, 9, none⟩ = some (.string s.name) := gg.2.1
                      have b1 : wr.cell? ⟨pb + 1, 9, none⟩ = some (.int .u64 0) := gg.2.2.1
                      have b2 : wr.cell? ⟨pb + 2, 9, none⟩ = some (.string h.name) := gg.2.2.2.1
                      have c1 : wr.cell? ⟨pc + 1, 9, none⟩ = some (.int .u64 0) := by exact gg.2.2.2.2.1
                      have c2 : wr.cell? ⟨pc + 2, 9, none⟩ = some (.string s.name) := by rw [← hmk]; exact gg.2.2.2.2.2
                      clear gg hmk hbit
                      go_wp2_with fail
                      go_quiet (fail)
                      go_wp2_with fail
                      go_quiet (fail)
                      go_wp2_with fail
                      go_roundw
                      case rel => exact ⟨10, by omega, rfl, by first | exact S.out.pure (((Kept.refl _ _).drewN _).drewN _) | exact S.out.pure ((Kept.refl _ _).drewN _)⟩
                      case measure => decide
                    | false =>
                      rw [hfk] at hbit hmk
                      simp only [Bool.false_eq_true, if_false] at hbit hmk
                      have hq : (t : Int) / 512 % 2 = 0 := by omega
                      clear hfk
                      have a1 : wr.cell? ⟨pa + 1, 9, none⟩ = some (.int .u64 0) := gg.1
                      have a2 : wr.cell? ⟨pa + 2, 9, none⟩ = some (.string s.name) := gg.2.1
                      have b1 : wr.cell? ⟨pb + 1, 9, none⟩ = some (.int .u64 0) := gg.2.2.1
                      have b2 : wr.cell? ⟨pb + 2, 9, none⟩ = some (.string h.name) := gg.2.2.2.1
                      have c1 : wr.cell? ⟨pc + 1, 9, none⟩ = some (.int .u64 0) := by exact gg.2.2.2.2.1
                      have c2 : wr.cell? ⟨pc + 2, 9, none⟩ = some (.string h.name) := by rw [← hmk]; exact gg.2.2.2.2.2
                      clear gg hmk hbit
                      go_wp2_with fail
                      go_quiet (fail)
                      go_wp2_with fail
                      go_quiet (fail)
                      go_wp2_with fail
                      go_roundw
                      case rel => exact ⟨10, by omega, rfl, by first | exact S.out.pure (((Kept.refl _ _).drewN _).drewN _) | exact S.out.pure ((Kept.refl _ _).drewN _)⟩
                      case measure => decide
                · as_aux_lemma =>
                    have gg := S.out.cell 10
                    have hbit := HT.out 10 (by decide)
                    have hmk := HM10.out
                    cases hfk : f 10 with
                    | true =>
                      have hne : (s.uid.toList == h.uid.toList) = false := HNE.out 10 hfk
                      rw [hfk] at hbit hmk
                      simp only [if_true] at hbit hmk
                      have hq : (t : Int) / 1024 % 2 = 1 := by omega
                      clear hfk
                      have a1 : wr.cell? ⟨pa + 1, 10, none⟩ = some (.int .u64 0) := gg.1
                      have a2 : wr.cell? ⟨pa + 2, 10, none⟩ = some (.string s.uid) := gg.2.1
                      have b1 : wr.cell? ⟨pb + 1, 10, none⟩ = some (.int .u64 0) := gg.2.2.1
                      have b2 : wr.cell? ⟨pb + 2, 10, none⟩ = some (.string h.uid) := gg.2.2.2.1
                      have c1 : wr.cell? ⟨pc + 1, 10, none⟩ = some (.int .u64 0) := by exact gg.2.2.2.2.1
                      have c2 : wr.cell? ⟨pc + 2, 10, none⟩ = some (.string s.uid) := by rw [← hmk]; exact gg.2.2.2.2.2
                      clear gg hmk hbit
                      go_wp2_with fail
                      go_quiet (fail)
                      go_wp2_with fail
                      go_quiet (fail)
                      go_wp2_with fail
                      go_roundw
                      case rel => exact ⟨11, by omega, rfl, by first | exact S.out.pure (((Kept.refl _ _).drewN _).drewN _) | exact S.out.pure ((Kept.refl _ _).drewN _)⟩
                      case measure => decide
                    | false =>
                      rw [hfk] at hbit hmk
                      simp only [Bool.false_eq_true, if_false] at hbit hmk
                      have hq : (t : Int) / 1024 % 2 = 0 := by omega
                      clear hfk
                      have a1 : wr.cell? ⟨pa + 1, 10, none⟩ = some (.int .u64 0) := gg.1
                      have a2 : wr.cell? ⟨pa + 2, 10, none⟩ = some (.string s.uid) := gg.2.1
                      have b1 : wr.cell? ⟨pb + 1, 10, none⟩ = some (.int .u64 0) := gg.2.2.1
                      have b2 : wr.cell? ⟨pb + 2, 10, none⟩ = some (.string h.uid) := gg.2.2.2.1
                      have c1 : wr.cell? ⟨pc + 1, 10, none⟩ = some (.int .u64 0) := by exact gg.2.2.2.2.1
                      have c2 : wr.cell? ⟨pc + 2, 10, none⟩ = some (.string h.uid) := by rw [← hmk]; exact gg.2.2.2.2.2
                      clear gg hmk hbit
                      go_wp2_with fail
                      go_quiet (fail)
                      go_wp2_with fail
                      go_quiet (fail)
                      go_wp2_with fail
                      go_roundw
                      case rel => exact ⟨11, by omega, rfl, by first | exact S.out.pure (((Kept.refl _ _).drewN _).drewN _) | exact S.out.pure ((Kept.refl _ _).drewN _)⟩
                      case measure => decide
                · as_aux_lemma =>
                    have gg := S.out.cell 11
                    have hbit := HT.out 11 (by decide)
                    have hmk := HM11.out
                    cases hfk : f 11 with
                    | true =>
                      have hne : (s.gid.toList == h.gid.toList) = false := HNE.out 11 hfk
                      rw [hfk] at hbit hmk
                      simp only [if_true] at hbit hmk
                      have hq : (t : Int) / 2048 % 2 = 1 := by omega
                      clear hfk
                      have a1 : wr.cell? ⟨pa + 1, 11, none⟩ = some (.int .u64 0) := gg.1
                      have a2 : wr.cell? ⟨pa + 2, 11, none⟩ = some (.string s.gid) := gg.2.1
                      have b1 : wr.cell? ⟨pb + 1, 11, none⟩ = some (.int .u64 0) := gg.2.2.1
                      have b2 : wr.cell? ⟨pb + 2, 11, none⟩ = some (.string h.gid) := gg.2.2.2.1
                      have c1 : wr.cell? ⟨pc + 1, 11, none⟩ = some (.int .u64 0) := by exact gg.2.2.2.2.1
                      have c2 : wr.cell? ⟨pc + 2, 11, none⟩ = some (.string s.gid) := by rw [← hmk]; exact gg.2.2.2.2.2
                      clear gg hmk hbit
                      go_wp2_with fail
                      go_quiet (fail)
                      go_wp2_with fail
                      go_quiet (fail)
                      go_wp2_with fail
                      go_roundw
                      case rel => exact ⟨12, by omega, rfl, by first | exact S.out.pure (((Kept.refl _ _).drewN _).drewN _) | exact S.out.pure ((Kept.refl _ _).drewN _)⟩
                      case measure => decide
                    | false =>
                      rw [hfk] at hbit hmk
                      simp only [Bool.false_eq_true, if_false] at hbit hmk
                      have hq : (t : Int) / 2048 % 2 = 0 := by omega
                      clear hfk
                      have a1 : wr.cell? ⟨pa + 1, 11, none⟩ = some (.int .u64 0) := gg.1
                      have a2 : wr.cell? ⟨pa + 2, 11, none⟩ = some (.string s.gid) := gg.2.1
                      have b1 : wr.cell? ⟨pb + 1, 11, none⟩ = some (.int .u64 0) := gg.2.2.1
                      have b2 : wr.cell? ⟨pb + 2, 11, none⟩ = some (.string h.gid) := gg.2.2.2.1
                      have c1 : wr.cell? ⟨pc + 1, 11, none⟩ = some (.int .u64 0) := by exact gg.2.2.2.2.1
                      have c2 : wr.cell? ⟨pc + 2, 11, none⟩ = some (.string h.gid) := by rw [← hmk]; exact gg.2.2.2.2.2
                      clear gg hmk hbit
                      go_wp2_with fail
                      go_quiet (fail)
                      go_wp2_with fail
                      go_quiet (fail)
                      go_wp2_with fail
                      go_roundw
                      case rel => exact ⟨12, by omega, rfl, by first | exact S.out.pure (((Kept.refl _ _).drewN _).drewN _) | exact S.out.pure ((Kept.refl _ _).drewN _)⟩
                      case measure => decide
                · as_aux_lemma =>
                    have gg := S.out.cell 12
                    have hbit := HT.out 12 (by decide)
                    have hmk := HM12.out
                    cases hfk : f 12 with
                    | true =>
                      have hne : (s.muid.toList == h.muid.toList) = false := HNE.out 12 hfk
                      rw [hfk] at hbit hmk
                      simp only [if_true] at hbit hmk
                      have hq : (t : Int) / 4096 % 2 = 1 := by omega
                      clear hfk
                      have a1 : wr.cell? ⟨pa + 1, 12, none⟩ = some (.int .u64 0) := gg.1
                      have a2 : wr.cell? ⟨pa + 2, 12, none⟩ = some (.string s.muid) := gg.2.1
                      have b1 : wr.cell? ⟨pb + 1, 12, none⟩ = some (.int .u64 0) := gg.2.2.1
                      have b2 : wr.cell? ⟨pb + 2, 12, none⟩ = some (.string h.muid) := gg.2.2.2.1
                      have c1 : wr.cell? ⟨pc + 1, 12, none⟩ = some (.int .u64 0) := by exact gg.2.2.2.2.1
                      have c2 : wr.cell? ⟨pc + 2, 12, none⟩ = some (.string s.muid) := by rw [← hmk]; exact gg.2.2.2.2.2
                      clear gg hmk hbit
                      go_wp2_with fail
                      go_quiet (fail)
                      go_wp2_with fail
                      go_quiet (fail)
                      go_wp2_with fail
                      go_roundw
                      case rel => exact ⟨13, by omega, rfl, by first | exact S.out.pure (((Kept.refl _ _).drewN _).drewN _) | exact S.out.pure ((Kept.refl _ _).drewN _)⟩
                      case measure => decide
                    | false =>
                      rw [hfk] at hbit hmk
                      simp only [Bool.false_eq_true, if_false] at hbit hmk
                      have hq : (t : Int) / 4096 % 2 = 0 := by omega
                      clear hfk
                      have a1 : wr.cell? ⟨pa + 1, 12, none⟩ = some (.int .u64 0) := gg.1
                      have a2 : wr.cell? ⟨pa + 2, 12, none⟩ = some (.string s.muid) := gg.2.1
                      have b1 : wr.cell? ⟨pb + 1, 12, none⟩ = some (.int .u64 0) := gg.2.2.1
                      have b2 : wr.cell? ⟨pb + 2, 12, none⟩ = some (.string h.muid) := gg.2.2.2.1
                      have c1 : wr.cell? ⟨pc + 1, 12, none⟩ = some (.int .u64 0) := by exact gg.2.2.2.2.1
                      have c2 : wr.cell? ⟨pc + 2, 12, none⟩ = some (.string h.muid) := by rw [← hmk]; exact gg.2.2.2.2.2
                      clear gg hmk hbit
                      go_wp2_with fail
                      go_quiet (fail)
                      go_wp2_with fail
                      go_quiet (fail)
                      go_wp2_with fail
                      go_roundw
                      case rel => exact ⟨13, by omega, rfl, by first | exact S.out.pure (((Kept.refl _ _).drewN _).drewN _) | exact S.out.pure ((Kept.refl _ _).drewN _)⟩
                      case measure => decide
                · have ht2 : (t : Int) < 8192 := by have := HT2.out; omega
                  go_wp2_with fail
                  go_ret
                  exact ⟨rfl, S.out.kept⟩
end Stt
end Go.Proofs.Ytpomachfnjgjbaa
