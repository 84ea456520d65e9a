/- What Take and Decode of a record do to a reader, and tell. -/
import Derived.Test.YteebiemfhicgbaaRtk
namespace Go.Proofs.Yteebiemfhicgbaa
set_option linter.unusedVariables false
open Go.RowKit

/-- A reader and its part's, the cell of what is told, all while Take runs. -/
structure Taking (w : World) (r q : Nat) (T : List Nat) (rs qs : RS) (w' : World) : Prop where
  rd : Rd w' r T rs
  pd : Rd w' q T qs
  box : w'.heap[w.heap.size]? = some (.cells #[.int .u16 0, .int .u32 0, .int .u8 0, .int .u32 0, .int .u64 0, .int .u32 0, .int .u32 0, .int .u32 0, .int .u64 0, .string ⟨#[]⟩, .string ⟨#[]⟩, .string ⟨#[]⟩, .string ⟨#[]⟩] 30 (0, 0))
  kept : Kept [r] w w'
  far : w.heap.size < q
  hT : ∀ k ∈ T, k < w.heap.size
  hr : r < w.heap.size
theorem Taking.pure {w w' w'' : World} {r q : Nat} {T : List Nat} {rs qs : RS} (h : Taking w r q T rs qs w') (hk : Kept [] w' w'') : Taking w r q T rs qs w'' :=
  ⟨h.rd.kept hk (by simp) (fun _ _ hm => by simp at hm), h.pd.kept hk (by simp) (fun _ _ hm => by simp at hm), (hk.block _ (block_lt h.box) (by simp)).trans h.box, h.kept.trans hk (fun i hi => by simp at hi), h.far, h.hT, h.hr⟩
theorem Taking.part {w w' w'' : World} {r q : Nat} {T : List Nat} {rs qs qs' : RS} (h : Taking w r q T rs qs w') (h1 : Rd w'' q T qs') (hk : Kept [q] w' w'') : Taking w r q T rs qs' w'' := by
  have hf := h.far
  have hr := h.hr
  exact ⟨h.rd.kept hk (by simp; omega) (fun k hkT hm => by simp at hm; have := h.hT k hkT; omega), h1, (hk.block _ (block_lt h.box) (by simp; omega)).trans h.box, h.kept.trans hk (fun i hi => by simp at hi; right; omega), hf, h.hT, hr⟩
theorem Taking.own {w w' w'' : World} {r q : Nat} {T : List Nat} {rs rs' qs : RS} (h : Taking w r q T rs qs w') (h1 : Rd w'' r T rs') (hk : Kept [r] w' w'') : Taking w r q T rs' qs w'' := by
  have hf := h.far
  have hr := h.hr
  exact ⟨h1, h.pd.kept hk (by simp; omega) (fun k hkT hm => by simp at hm; obtain ⟨v, _, _, hn⟩ := h.rd; exact hn (hm ▸ hkT)), (hk.block _ (block_lt h.box) (by simp; omega)).trans h.box, h.kept.trans hk (fun i hi => Or.inl hi), hf, h.hT, hr⟩
theorem Taking.lt {w w' : World} {r q : Nat} {T : List Nat} {rs qs : RS} (h : Taking w r q T rs qs w') : ∀ k ∈ T, k < w'.heap.size := fun k hk => by
  have := h.hT k hk
  have := h.kept.size
  omega

theorem kept13 {w : World} {p : Nat} (x0 x1 x2 x3 x4 x5 x6 x7 x8 x9 x10 x11 x12 : Value) : Kept [p] w (((((((((((((w.setCell ⟨p, 0, none⟩ x0).setCell ⟨p, 1, none⟩ x1).setCell ⟨p, 2, none⟩ x2).setCell ⟨p, 3, none⟩ x3).setCell ⟨p, 4, none⟩ x4).setCell ⟨p, 5, none⟩ x5).setCell ⟨p, 6, none⟩ x6).setCell ⟨p, 7, none⟩ x7).setCell ⟨p, 8, none⟩ x8).setCell ⟨p, 9, none⟩ x9).setCell ⟨p, 10, none⟩ x10).setCell ⟨p, 11, none⟩ x11).setCell ⟨p, 12, none⟩ x12) := (((((((((((((Kept.refl [p] w).setCell (Or.inl (by simp)) _).setCell (Or.inl (by simp)) _).setCell (Or.inl (by simp)) _).setCell (Or.inl (by simp)) _).setCell (Or.inl (by simp)) _).setCell (Or.inl (by simp)) _).setCell (Or.inl (by simp)) _).setCell (Or.inl (by simp)) _).setCell (Or.inl (by simp)) _).setCell (Or.inl (by simp)) _).setCell (Or.inl (by simp)) _).setCell (Or.inl (by simp)) _).setCell (Or.inl (by simp)) _
theorem RS.Ok.text {st : RS} (h : st.Ok) : st.text.Ok := by
  have h1 := Rdr.RS.Ok.counted h
  unfold RS.text
  split
  · exact h1
  · split
    · exact h1.failAt 12 _ (by decide) (by decide)
    · exact h1.next _
theorem RS.Ok.past {st : RS} (h : st.Ok) : st.past.Ok := by
  have h1 := Rdr.RS.Ok.counted h
  unfold RS.past
  split
  · exact h1
  · exact h1.next _
theorem RS.counted_bad_le {st : RS} (h : st.Ok) (hb : st.bad ≤ 1152921504606846976) : st.counted.bad ≤ 1152921504606846976 := by
  have := h.pos
  unfold RS.counted
  split
  · exact hb
  · unfold RS.fail RS.failAt
    split
    · show st.pos ≤ _; omega
    · exact hb
theorem RS.Ok.part {st : RS} (h : st.Ok) (hb : st.bad ≤ 1152921504606846976) : st.part.Ok := by
  have h1 := Rdr.RS.Ok.counted h
  have h2 := RS.Ok.past h
  have h3 := h1.e1
  have h4 := h1.e2
  have hp := Rdr.RS.piece_le st
  unfold RS.part
  split
  · rename_i he
    exact ⟨RS.counted_bad_le h hb, h3, h4⟩
  · refine ⟨?_, by show (-9223372036854775808 : Int) ≤ 0; decide, by show (0 : Int) ≤ 9223372036854775807; decide⟩
    have := h2.pos
    show st.past.pos - st.piece.length + st.piece.length ≤ _
    omega

namespace Stt
open Go.Proofs.Yteebiemfhicgbaa.Txt

theorem whole_any (w : World) (r : Nat) (T : List Nat) (st : RS) (s : Rec) (h : Hid (Rd w r T st)) :
    Calls Try.prog 93 #[.pointer (some ⟨r, 0, none⟩), s.val] w fun e w' => e = .returned (if st.err = 0 then s else Rec.none).val ∧ Kept [] w w' := by
  by_cases he : st.err = 0
  · rw [if_pos he]
    exact whole_yes w r T st s.ty s.dev s.kind s.vers s.path s.mode s.atime s.mtime s.len s.name s.uid s.gid s.muid (by rw [he]; rfl) h
  · rw [if_neg he]
    exact whole_no w r T st s.ty s.dev s.kind s.vers s.path s.mode s.atime s.mtime s.len s.name s.uid s.gid s.muid (by rw [beq_eq_false_iff_ne]; exact he) h

set_option maxHeartbeats 4000000 in
set_option maxRecDepth 100000 in
theorem take_any (w : World) (r : Nat) (T : List Nat) (st : RS) (hT : Hid (∀ k ∈ T, k < w.heap.size)) (ok : Hid st.Ok) (hb : st.bad ≤ 1152921504606846976) (h : Hid (Rd w r T st)) :
    Calls Try.prog 42 #[.pointer (some ⟨r, 0, none⟩)] w fun e w' => e = .returned st.rec'.val ∧ Hid (Rd w' r T st.took) ∧ Kept [r] w w' := by
  have hr := Lib.hid h.out.lt
  have HW : Hid (w.heap.size < (w.alloc (.cells #[.int .u16 0, .int .u32 0, .int .u8 0, .int .u32 0, .int .u64 0, .int .u32 0, .int .u32 0, .int .u32 0, .int .u64 0, .string ⟨#[]⟩, .string ⟨#[]⟩, .string ⟨#[]⟩, .string ⟨#[]⟩] 30 (0, 0))).heap.size) := by show _ < _; simp
  have K0 : Hid (Kept [r] w (w.alloc (.cells #[.int .u16 0, .int .u32 0, .int .u8 0, .int .u32 0, .int .u64 0, .int .u32 0, .int .u32 0, .int .u32 0, .int .u64 0, .string ⟨#[]⟩, .string ⟨#[]⟩, .string ⟨#[]⟩, .string ⟨#[]⟩] 30 (0, 0)))) := (Kept.refl [r] _).alloc _
  have b0 : Hid ((w.alloc (.cells #[.int .u16 0, .int .u32 0, .int .u8 0, .int .u32 0, .int .u64 0, .int .u32 0, .int .u32 0, .int .u32 0, .int .u64 0, .string ⟨#[]⟩, .string ⟨#[]⟩, .string ⟨#[]⟩, .string ⟨#[]⟩] 30 (0, 0))).heap[w.heap.size]? = some (.cells #[.int .u16 0, .int .u32 0, .int .u8 0, .int .u32 0, .int .u64 0, .int .u32 0, .int .u32 0, .int .u32 0, .int .u64 0, .string ⟨#[]⟩, .string ⟨#[]⟩, .string ⟨#[]⟩, .string ⟨#[]⟩] 30 (0, 0))) := heap_alloc_new w _
  have h0 : Hid (Rd (w.alloc (.cells #[.int .u16 0, .int .u32 0, .int .u8 0, .int .u32 0, .int .u64 0, .int .u32 0, .int .u32 0, .int .u32 0, .int .u64 0, .string ⟨#[]⟩, .string ⟨#[]⟩, .string ⟨#[]⟩, .string ⟨#[]⟩] 30 (0, 0))) r T st) := h.out.kept ((Kept.refl [] _).alloc _) (by simp) (fun _ _ hm => by simp at hm)
  have hT0 : Hid (∀ k ∈ T, k < (w.alloc (.cells #[.int .u16 0, .int .u32 0, .int .u8 0, .int .u32 0, .int .u64 0, .int .u32 0, .int .u32 0, .int .u32 0, .int .u64 0, .string ⟨#[]⟩, .string ⟨#[]⟩, .string ⟨#[]⟩, .string ⟨#[]⟩] 30 (0, 0))).heap.size) := fun k hk => by have := hT.out k hk; simp; omega
  have C0 := Rdr.part_any (w.alloc (.cells #[.int .u16 0, .int .u32 0, .int .u8 0, .int .u32 0, .int .u64 0, .int .u32 0, .int .u32 0, .int .u32 0, .int .u64 0, .string ⟨#[]⟩, .string ⟨#[]⟩, .string ⟨#[]⟩, .string ⟨#[]⟩] 30 (0, 0))) r T st hT0 ok h0
  have okp : Hid st.part.Ok := RS.Ok.part ok.out hb
  clear hb
  obtain ⟨p0, hp0⟩ : ∃ s : RS, s = st.part := ⟨_, rfl⟩
  obtain ⟨p1, hp1⟩ : ∃ s : RS, s = p0.next 2 := ⟨_, rfl⟩
  obtain ⟨p2, hp2⟩ : ∃ s : RS, s = p1.next 4 := ⟨_, rfl⟩
  obtain ⟨p3, hp3⟩ : ∃ s : RS, s = p2.qid := ⟨_, rfl⟩
  obtain ⟨p4, hp4⟩ : ∃ s : RS, s = p3.next 4 := ⟨_, rfl⟩
  obtain ⟨p5, hp5⟩ : ∃ s : RS, s = p4.next 4 := ⟨_, rfl⟩
  obtain ⟨p6, hp6⟩ : ∃ s : RS, s = p5.next 4 := ⟨_, rfl⟩
  obtain ⟨p7, hp7⟩ : ∃ s : RS, s = p6.next 8 := ⟨_, rfl⟩
  obtain ⟨t1, ht1⟩ : ∃ s : RS, s = p7.text := ⟨_, rfl⟩
  obtain ⟨t2, ht2⟩ : ∃ s : RS, s = t1.text := ⟨_, rfl⟩
  obtain ⟨t3, ht3⟩ : ∃ s : RS, s = t2.text := ⟨_, rfl⟩
  obtain ⟨t4, ht4⟩ : ∃ s : RS, s = t3.text := ⟨_, rfl⟩
  obtain ⟨n1, hn1⟩ : ∃ s : Nat, s = leval (p0.got 2) := ⟨_, rfl⟩
  obtain ⟨n2, hn2⟩ : ∃ s : Nat, s = leval (p1.got 4) := ⟨_, rfl⟩
  obtain ⟨m1, hm1⟩ : ∃ s : Nat, s = p3.tell (leval (p2.got 1)) := ⟨_, rfl⟩
  obtain ⟨m2, hm2⟩ : ∃ s : Nat, s = p3.tell (leval ((p2.next 1).got 4)) := ⟨_, rfl⟩
  obtain ⟨m3, hm3⟩ : ∃ s : Nat, s = p3.tell (leval (((p2.next 1).next 4).got 8)) := ⟨_, rfl⟩
  obtain ⟨n4, hn4⟩ : ∃ s : Nat, s = leval (p3.got 4) := ⟨_, rfl⟩
  obtain ⟨n5, hn5⟩ : ∃ s : Nat, s = leval (p4.got 4) := ⟨_, rfl⟩
  obtain ⟨n6, hn6⟩ : ∃ s : Nat, s = leval (p5.got 4) := ⟨_, rfl⟩
  obtain ⟨n7, hn7⟩ : ∃ s : Nat, s = leval (p6.got 8) := ⟨_, rfl⟩
  obtain ⟨x1, hx1⟩ : ∃ s : ByteArray, s = p7.said := ⟨_, rfl⟩
  obtain ⟨x2, hx2⟩ : ∃ s : ByteArray, s = t1.said := ⟨_, rfl⟩
  obtain ⟨x3, hx3⟩ : ∃ s : ByteArray, s = t2.said := ⟨_, rfl⟩
  obtain ⟨x4, hx4⟩ : ∃ s : ByteArray, s = t3.said := ⟨_, rfl⟩
  have HF : st.part.fields = ⟨n1, n2, m1, m2, m3, n4, n5, n6, n7, x1, x2, x3, x4⟩ := by
    subst hx4 hx3 hx2 hx1 hn7 hn6 hn5 hn4 hm3 hm2 hm1 hn2 hn1 ht4 ht3 ht2 ht1 hp7 hp6 hp5 hp4 hp3 hp2 hp1 hp0
    rfl
  have HT : (Rdr.RS.end st.part.t4).err = (Rdr.RS.end t4).err := by
    subst hx4 hx3 hx2 hx1 hn7 hn6 hn5 hn4 hm3 hm2 hm1 hn2 hn1 ht4 ht3 ht2 ht1 hp7 hp6 hp5 hp4 hp3 hp2 hp1 hp0
    rfl
  obtain ⟨ee, hee⟩ : ∃ x : Int, x = (Rdr.RS.end t4).err := ⟨_, rfl⟩
  obtain ⟨tk, htk⟩ : ∃ s : RS, s = st.took := ⟨_, rfl⟩
  have htk2 : st.past.fail ee = tk := by rw [htk, hee, ← HT]; rfl
  have HZ : st.rec' = if tk.err = 0 then ⟨n1, n2, m1, m2, m3, n4, n5, n6, n7, x1, x2, x3, x4⟩ else Rec.none := by rw [htk, ← HF]; rfl
  rw [HZ, ← htk]
  have CF := fun (w : World) (h : Hid (Rd w r T st.past)) => Rdr.fail_any w r T st.past ee h
  rw [htk2] at CF
  have CW := fun (w : World) (h : Hid (Rd w r T tk)) => whole_any w r T tk ⟨n1, n2, m1, m2, m3, n4, n5, n6, n7, x1, x2, x3, x4⟩ h
  obtain ⟨z, hz⟩ : ∃ z : Rec, z = if tk.err = 0 then ⟨n1, n2, m1, m2, m3, n4, n5, n6, n7, x1, x2, x3, x4⟩ else Rec.none := ⟨_, rfl⟩
  rw [← hz] at CW ⊢
  rw [← hp0] at okp
  have okp1 : Hid p1.Ok := by rw [hp1]; exact RS.Ok.next okp.out 2
  have okp2 : Hid p2.Ok := by rw [hp2]; exact RS.Ok.next okp1.out 4
  have okp3 : Hid p3.Ok := by rw [hp3]; exact RS.Ok.next (RS.Ok.next (RS.Ok.next okp2.out 1) 4) 8
  have okp4 : Hid p4.Ok := by rw [hp4]; exact RS.Ok.next okp3.out 4
  have okp5 : Hid p5.Ok := by rw [hp5]; exact RS.Ok.next okp4.out 4
  have okp6 : Hid p6.Ok := by rw [hp6]; exact RS.Ok.next okp5.out 4
  have okp7 : Hid p7.Ok := by rw [hp7]; exact RS.Ok.next okp6.out 8
  have okt1 : Hid t1.Ok := by rw [ht1]; exact RS.Ok.text okp7.out
  have okt2 : Hid t2.Ok := by rw [ht2]; exact RS.Ok.text okt1.out
  have okt3 : Hid t3.Ok := by rw [ht3]; exact RS.Ok.text okt2.out
  have okt4 : Hid t4.Ok := by rw [ht4]; exact RS.Ok.text okt3.out
  have D1 := fun (w : World) (q : Nat) (h : Hid (Rd w q T p0)) => Rdr.u16_any w q T p0 okp h
  have hcnt : p0.cnt = n1 := by rw [hn1]; rfl
  rw [hcnt] at D1
  rw [← hp1] at D1
  have D2 := fun (w : World) (q : Nat) (h : Hid (Rd w q T p1)) => Rdr.u32_any w q T p1 okp1 h
  rw [← hp2, ← hn2] at D2
  have D3 := fun (w : World) (q : Nat) (hT : Hid (∀ k ∈ T, k < w.heap.size)) (h : Hid (Rd w q T p2)) => takeqid_any w q T p2 hT okp2 h
  rw [← hp3, ← hm1, ← hm2, ← hm3] at D3
  have D4 := fun (w : World) (q : Nat) (h : Hid (Rd w q T p3)) => Rdr.u32_any w q T p3 okp3 h
  rw [← hp4, ← hn4] at D4
  have D5 := fun (w : World) (q : Nat) (h : Hid (Rd w q T p4)) => Rdr.u32_any w q T p4 okp4 h
  rw [← hp5, ← hn5] at D5
  have D6 := fun (w : World) (q : Nat) (h : Hid (Rd w q T p5)) => Rdr.u32_any w q T p5 okp5 h
  rw [← hp6, ← hn6] at D6
  have D7 := fun (w : World) (q : Nat) (h : Hid (Rd w q T p6)) => Rdr.u64_any w q T p6 okp6 h
  rw [← hp7, ← hn7] at D7
  have D8 := fun (w : World) (q : Nat) (hT : Hid (∀ k ∈ T, k < w.heap.size)) (h : Hid (Rd w q T p7)) => Rdr.text_any w q T p7 hT okp7 h
  unfold Rdr.TextOut at D8
  rw [← ht1, ← hx1] at D8
  have D9 := fun (w : World) (q : Nat) (hT : Hid (∀ k ∈ T, k < w.heap.size)) (h : Hid (Rd w q T t1)) => Rdr.text_any w q T t1 hT okt1 h
  unfold Rdr.TextOut at D9
  rw [← ht2, ← hx2] at D9
  have D10 := fun (w : World) (q : Nat) (hT : Hid (∀ k ∈ T, k < w.heap.size)) (h : Hid (Rd w q T t2)) => Rdr.text_any w q T t2 hT okt2 h
  unfold Rdr.TextOut at D10
  rw [← ht3, ← hx3] at D10
  have D11 := fun (w : World) (q : Nat) (hT : Hid (∀ k ∈ T, k < w.heap.size)) (h : Hid (Rd w q T t3)) => Rdr.text_any w q T t3 hT okt3 h
  unfold Rdr.TextOut at D11
  rw [← ht4, ← hx4] at D11
  have E1 := Lib.hid D1
  have E2 := Lib.hid D2
  have E3 := Lib.hid D3
  have E4 := Lib.hid D4
  have E5 := Lib.hid D5
  have E6 := Lib.hid D6
  have E7 := Lib.hid D7
  have E8 := Lib.hid D8
  have E9 := Lib.hid D9
  have E10 := Lib.hid D10
  have E11 := Lib.hid D11
  have EF := Lib.hid CF
  have EW := Lib.hid CW
  have EEE := Lib.hid hee
  have HP0 := Lib.hid hp0
  clear D1 D2 D3 D4 D5 D6 D7 D8 D9 D10 D11 CF CW hcnt hz HZ HF HT htk2 htk hee hp0 hp1 hp2 hp3 hp4 hp5 hp6 hp7 ht1 ht2 ht3 ht4 hn1 hn2 hm1 hm2 hm3 hn4 hn5 hn6 hn7 hx1 hx2 hx3 hx4 okp okp1 okp2 okp3 okp4 okp5 okp6 okp7 okt1 okt2 okt3 okt4
  obtain ⟨z0, z1, z2, z3, z4, z5, z6, z7, z8, z9, z10, z11, z12⟩ := z
  unfold Rec.val Rec.cells at EW ⊢
  simp only [] at EW ⊢
  go_enter Try.func42, Try.ntmps42
  go_wp2_with fail
  refine C0.mono ?_
  rintro e w1 ⟨q, rfl, hq, hpq, hrr, k1⟩
  have J0 : Hid (Taking w r q T st.past st.part w1) := ⟨hrr.out, hpq.out, (k1.block _ HW.out (by have := hr.out; simp; omega)).trans b0.out, K0.out.trans k1 (fun i hi => Or.inl hi), Nat.lt_of_lt_of_le HW.out hq, hT.out, hr.out⟩
  have J0' : Hid (Taking w r q T st.past p0 w1) := by rw [HP0.out]; exact J0.out
  clear J0 hq hpq hrr k1 C0 b0 h0 hT0 K0 HW HP0
  go_wp2_with fail
  refine (E1.out _ q J0'.out.pd).mono ?_
  rintro e w2 ⟨rfl, hh, kk⟩
  have J1 := Lib.hid (J0'.out.part hh.out kk)
  clear hh kk J0' E1
  go_wp2_with fail
  refine (E2.out _ q J1.out.pd).mono ?_
  rintro e w3 ⟨rfl, hh, kk⟩
  have J2 := Lib.hid (J1.out.part hh.out kk)
  clear hh kk J1 E2
  go_wp2_with fail
  refine (E3.out _ q (J2.out.lt) J2.out.pd).mono ?_
  rintro e w4 ⟨rfl, hh, kk⟩
  have J3 := Lib.hid (J2.out.part hh.out kk)
  clear hh kk J2 E3
  go_wp2_with fail
  refine (E4.out _ q J3.out.pd).mono ?_
  rintro e w5 ⟨rfl, hh, kk⟩
  have J4 := Lib.hid (J3.out.part hh.out kk)
  clear hh kk J3 E4
  go_wp2_with fail
  refine (E5.out _ q J4.out.pd).mono ?_
  rintro e w6 ⟨rfl, hh, kk⟩
  have J5 := Lib.hid (J4.out.part hh.out kk)
  clear hh kk J4 E5
  go_wp2_with fail
  refine (E6.out _ q J5.out.pd).mono ?_
  rintro e w7 ⟨rfl, hh, kk⟩
  have J6 := Lib.hid (J5.out.part hh.out kk)
  clear hh kk J5 E6
  go_wp2_with fail
  refine (E7.out _ q J6.out.pd).mono ?_
  rintro e w8 ⟨rfl, hh, kk⟩
  have J7 := Lib.hid (J6.out.part hh.out kk)
  clear hh kk J6 E7
  go_wp2_with fail
  refine (E8.out _ q (J7.out.lt) J7.out.pd).mono ?_
  rintro e w9 ⟨rfl, hh, kk⟩
  have J8 := Lib.hid (J7.out.part hh.out kk)
  clear hh kk J7 E8
  go_wp2_with fail
  refine (E9.out _ q (J8.out.lt) J8.out.pd).mono ?_
  rintro e w10 ⟨rfl, hh, kk⟩
  have J9 := Lib.hid (J8.out.part hh.out kk)
  clear hh kk J8 E9
  go_wp2_with fail
  refine (E10.out _ q (J9.out.lt) J9.out.pd).mono ?_
  rintro e w11 ⟨rfl, hh, kk⟩
  have J10 := Lib.hid (J9.out.part hh.out kk)
  clear hh kk J9 E10
  go_wp2_with fail
  refine (E11.out _ q (J10.out.lt) J10.out.pd).mono ?_
  rintro e w12 ⟨rfl, hh, kk⟩
  have J11 := Lib.hid (J10.out.part hh.out kk)
  clear hh kk J10 E11
  have JW : Hid (Taking w r q T st.past t4 (w12.alloc (.cells #[.int .u16 n1, .int .u32 n2, .int .u8 m1, .int .u32 m2, .int .u64 m3, .int .u32 n4, .int .u32 n5, .int .u32 n6, .int .u64 n7, .string x1, .string x2, .string x3, .string x4] 30 (0, 0)))) := J11.out.pure ((Kept.refl [] _).alloc _)
  have L0 : Hid ((w12.alloc (.cells #[.int .u16 n1, .int .u32 n2, .int .u8 m1, .int .u32 m2, .int .u64 m3, .int .u32 n4, .int .u32 n5, .int .u32 n6, .int .u64 n7, .string x1, .string x2, .string x3, .string x4] 30 (0, 0))).heap[w12.heap.size]? = some (.cells #[.int .u16 n1, .int .u32 n2, .int .u8 m1, .int .u32 m2, .int .u64 m3, .int .u32 n4, .int .u32 n5, .int .u32 n6, .int .u64 n7, .string x1, .string x2, .string x3, .string x4] 30 (0, 0))) := heap_alloc_new w12 _
  have hql := J11.out.pd.lt
  have hrl := J11.out.rd.lt
  have hwl := Lib.hid (block_lt J11.out.box)
  clear J11
  go_wp2_with fail
  refine (Rdr.end_any _ q T t4 JW.out.pd).mono ?_
  rintro e w13 ⟨rfl, hh, kk⟩
  have J13 := Lib.hid (JW.out.part hh.out kk)
  have L13 : Hid (w13.heap[w12.heap.size]? = some (.cells #[.int .u16 n1, .int .u32 n2, .int .u8 m1, .int .u32 m2, .int .u64 m3, .int .u32 n4, .int .u32 n5, .int .u32 n6, .int .u64 n7, .string x1, .string x2, .string x3, .string x4] 30 (0, 0))) := (kk.block _ (block_lt L0.out) (by simp; omega)).trans L0.out
  clear hh kk JW L0
  go_wp2_with fail
  refine (Rdr.err_any _ q T _ J13.out.pd).mono ?_
  rintro e w14 ⟨rfl, kk⟩
  have J14 := Lib.hid (J13.out.pure kk)
  have L14 : Hid (w14.heap[w12.heap.size]? = some (.cells #[.int .u16 n1, .int .u32 n2, .int .u8 m1, .int .u32 m2, .int .u64 m3, .int .u32 n4, .int .u32 n5, .int .u32 n6, .int .u64 n7, .string x1, .string x2, .string x3, .string x4] 30 (0, 0))) := (kk.block _ (block_lt L13.out) (by simp)).trans L13.out
  rw [← EEE.out]
  clear kk J13 L13
  go_wp2_with fail
  refine (EF.out _ J14.out.rd).mono ?_
  rintro e w15 ⟨rfl, hh, kk⟩
  have J15 := Lib.hid (J14.out.own hh.out kk)
  have L15 : Hid (w15.heap[w12.heap.size]? = some (.cells #[.int .u16 n1, .int .u32 n2, .int .u8 m1, .int .u32 m2, .int .u64 m3, .int .u32 n4, .int .u32 n5, .int .u32 n6, .int .u64 n7, .string x1, .string x2, .string x3, .string x4] 30 (0, 0))) := (kk.block _ (block_lt L14.out) (by simp; omega)).trans L14.out
  clear hh kk J14 L14
  obtain ⟨c0, c1, c2, c3, c4, c5, c6, c7, c8, c9, c10, c11, c12, -⟩ := thirteen L15.out
  go_wp2_with fail
  refine (EW.out _ J15.out.rd).mono ?_
  rintro e w16 ⟨rfl, kk⟩
  have J16 := Lib.hid (J15.out.pure kk)
  clear kk J15 L15 c0 c1 c2 c3 c4 c5 c6 c7 c8 c9 c10 c11 c12
  obtain ⟨d0, d1, d2, d3, d4, d5, d6, d7, d8, d9, d10, d11, d12, fz⟩ := thirteen J16.out.box
  have f0 := fz 0
  have f1 := fz 1
  have f2 := fz 2
  have f3 := fz 3
  have f4 := fz 4
  have f5 := fz 5
  have f6 := fz 6
  have f7 := fz 7
  have f8 := fz 8
  have f9 := fz 9
  have f10 := fz 10
  have f11 := fz 11
  have f12 := fz 12
  clear fz
  go_wp2_with fail
  have e3 := set13 (.int .u16 z0) (.int .u32 z1) (.int .u8 z2) (.int .u32 z3) (.int .u64 z4) (.int .u32 z5) (.int .u32 z6) (.int .u32 z7) (.int .u64 z8) (.string z9) (.string z10) (.string z11) (.string z12) J16.out.box
  obtain ⟨g0, g1, g2, g3, g4, g5, g6, g7, g8, g9, g10, g11, g12, -⟩ := thirteen e3
  have KS := kept13 (w := w16) (p := w.heap.size) (.int .u16 z0) (.int .u32 z1) (.int .u8 z2) (.int .u32 z3) (.int .u64 z4) (.int .u32 z5) (.int .u32 z6) (.int .u32 z7) (.int .u64 z8) (.string z9) (.string z10) (.string z11) (.string z12)
  refine bodyPost_ret (v := .agg #[.int .u16 z0, .int .u32 z1, .int .u8 z2, .int .u32 z3, .int .u64 z4, .int .u32 z5, .int .u32 z6, .int .u32 z7, .int .u64 z8, .string z9, .string z10, .string z11, .string z12]) (by simp [results, Try.results42, go_sem, g0, g1, g2, g3, g4, g5, g6, g7, g8, g9, g10, g11, g12]) rfl ⟨rfl, ?_, ?_⟩
  · exact J16.out.rd.kept KS (by have := hr.out; simp; omega) (fun k hk hm => by simp at hm; have := hT.out k hk; omega)
  · exact ((((((((((((J16.out.kept.setCell (Or.inr (by simp)) _).setCell (Or.inr (by simp)) _).setCell (Or.inr (by simp)) _).setCell (Or.inr (by simp)) _).setCell (Or.inr (by simp)) _).setCell (Or.inr (by simp)) _).setCell (Or.inr (by simp)) _).setCell (Or.inr (by simp)) _).setCell (Or.inr (by simp)) _).setCell (Or.inr (by simp)) _).setCell (Or.inr (by simp)) _).setCell (Or.inr (by simp)) _).setCell (Or.inr (by simp)) _
end Stt
end Go.Proofs.Yteebiemfhicgbaa
