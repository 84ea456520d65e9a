/- What doMake of nodes does: where no node can be made; where one is made. -/
import Derived.Test.YtihkldcdikbinaaMak
namespace Go.Proofs.Ytihkldcdikbinaa
set_option linter.unusedVariables false
open Go.RowKit
namespace Nd
open Go.Proofs.Ytihkldcdikbinaa.Utf Go.Proofs.Ytihkldcdikbinaa.Txt Go.PlainAid Go.Proofs.Ytihkldcdikbinaa.Mpf

theorem Bx.ne {w : World} {a b : Nat} {s t : TypeId} {cs ds : Array Value} (h : Bx w a s cs) (k : Bx w b t ds) (ht : s ≠ t) : a ≠ b := by
  rintro rfl
  have k' : w.heap[a]? = some (.cells ds t (0, 0)) := k
  rw [show w.heap[a]? = some (.cells cs s (0, 0)) from h] at k'
  cases k'
  exact ht rfl
theorem z0 : ((0 : Nat) : Int) = 0 := rfl
/-- What a new node has of an operation. -/
def newIs (o : OpV) : Is := { path := 0, parent := o.path, name := o.is.name, mode := o.is.mode, uid := o.is.uid, gid := o.is.gid, muid := o.is.muid, atime := o.is.atime, mtime := o.is.mtime, vers := 0, length := 0, opens := 0 }
/-- All that doMake leaves where it makes. -/
structure MakeEnd (w w' : World) (p : Nat) (lk : Int) (most next bn bc : Nat) (ps : Value) (nc : Nat) (fc : Nat × ByteArray → Option Value) (n1 : Nat) (f : Nat → Option Value) (b : Nat) (d : Is) (lb : Int) (ks : Value) (m : Nat) (o : OpV) (n : Nat) (xs : List Value) (k : Nat) (ys : List Value) (ps' : Value) (b' m' g cap : Nat) : Prop where
  st : StAt w' p lk most (next + 1) bn ps' bc
  row : w'.ownsRow 0 30 1 ps' (n + 1) (xs ++ [.int .u64 next])
  mn : Mp nK w' bn (n1 + 1) (upd f next (some (ptr b')))
  mc : Mp pK w' bc (nc + 1) (upd fc (o.path, o.is.name) (some (.int .u64 next)))
  node : NdAt w' b' { newIs o with path := next } 0 (.slice none 0 0) m'
  data : w'.heap[m']? = some (.map #[] 0)
  dir : NdAt w' b d lb (.slice (some ⟨g, 0, none⟩) (k + 1) cap) m
  krow : w'.ownsRow 0 30 1 (.slice (some ⟨g, 0, none⟩) (k + 1) cap) (k + 1) (ys ++ [.int .u64 next])
  lb' : w.heap.size ≤ b'
  lm' : w.heap.size ≤ m'
  ne : b' ≠ m'
  lps : ps'.ownBlock = ps.ownBlock ∨ ∃ h, ps'.ownBlock = some h ∧ w.heap.size ≤ h
  lg : ks.ownBlock = some g ∨ w.heap.size ≤ g
  rows : ∀ h, ps'.ownBlock = some h → h ≠ g
  kept : Kept (p :: bn :: bc :: b :: (ps.ownBlock.toList ++ ks.ownBlock.toList)) w w'
set_option maxRecDepth 100000 in
set_option maxHeartbeats 8000000 in
theorem make_83 (w : World) (p : Nat) (lk : Int) (most next bn bc : Nat) (ps : Value) (nc : Nat) (fc : Nat × ByteArray → Option Value) (n1 : Nat) (f : Nat → Option Value) (b : Nat) (d : Is) (lb : Int) (ks : Value) (m : Nat) (o : OpV)
    (hp : StAt w p lk most next bn ps bc) (hc : Mp pK w bc nc fc) (hmn : Mp nK w bn n1 f) (hn : NdAt w b d lb ks m) (hx : o.path < 18446744073709551616) (hs : o.is.name.size ≤ maxLen) (hz : o.is.name.size ≤ 140737488355328) (u1 : o.is.uid.size ≤ 140737488355328) (u2 : o.is.gid.size ≤ 140737488355328) (u3 : o.is.muid.size ≤ 140737488355328) (hd : isDirM d.mode = true) (hok : newOk o.is = true) (hch : Nm.chk o.is.name = true) (hfull : most ≤ n1) (htk : (fc (o.path, o.is.name)).isSome = false) :
    Calls Try.prog 43 #[.pointer (some ⟨p, 0, none⟩), .pointer (some ⟨b, 0, none⟩), .agg (opL o).toArray] w fun e w' => e = .returned (.tuple #[.int .u64 0, .int .i64 83]) ∧ Kept [] w w' := by
  have ISD := Lib.hid (fun W h => isDir_any W b d lb ks m h)
  have MAY := Lib.hid (fun W => maySet15_any W o.is o.ik u1 u2 u3)
  have CHK := Lib.hid (fun W => Nm.check_any W o.is.name hz)
  simp only [hd] at ISD
  simp only [hok] at MAY
  simp only [hch] at CHK
  have hfi : (most : Int) ≤ (n1 : Int) := by omega
  simp only [isL] at MAY
  unfold opL
  obtain ⟨-, c2, c3, c4, c5, c6⟩ := StAt.cells hp
  go_enter Try.func43, Try.ntmps43
  go_wp2_with fail
  obtain ⟨w1, hw1⟩ : ∃ w1, w1 = (w.alloc (.cells #[.int .u8 o.kind, .int .u64 o.path, .string o.name, .int .u8 o.mask, .int .u64 o.is.path, .int .u64 o.is.parent, .string o.is.name, .int .u32 o.is.mode, .string o.is.uid, .string o.is.gid, .string o.is.muid, .int .u32 o.is.atime, .int .u32 o.is.mtime, .int .u32 o.is.vers, .int .u64 o.is.length, .int .i64 o.is.opens, .int .i64 o.ik, .int .u64 o.offset, o.data, .int .i64 o.n] 55)).alloc (.cells #[.int .u64 o.path, .string o.is.name] 123) := ⟨_, rfl⟩
  have W1 : Hid (MkW w w1 p lk most next bn bc ps nc fc n1 f b d lb ks m o) := by
    rw [hw1]
    exact ⟨Bx.alloc (Bx.made w _ _) _, alloc_new _ _ _ (by simp), (Bx.alloc hp _).alloc _, (Bx.alloc hn _).alloc _, (hc.alloc _).alloc _, (hmn.alloc _).alloc _, ((Kept.refl [] w).alloc _).alloc _⟩
  rw [← hw1]
  clear hw1 c2 c3 c4 c5 c6
  have SL : Hid (∀ w', MkW w w' p lk most next bn bc ps nc fc n1 f b d lb ks m o → w'.cell? ⟨p, 6, none⟩ = some (Value.map (some bc)) ∧ w'.cell? ⟨w.heap.size + 1, 0, none⟩ = some (Value.int .u64 o.path) ∧ w'.cell? ⟨w.heap.size + 1, 1, none⟩ = some (Value.string o.is.name)) := fun w' h => ⟨h.cells.s6, h.cells.a0, h.cells.a1⟩
  obtain ⟨tv, htv⟩ : ∃ tv, tv = (fc (o.path, o.is.name)).getD (.int .u64 0) := ⟨_, rfl⟩
  have hL : (Instr.lookup 84 (.map (some bc)) (.agg #[.int .u64 o.path, .string o.is.name]) true).run Try.prog w1.drew = .ok (.tuple #[tv, .bool false]) w1.drew := by
    have h := W1.out.drew.mc.look Try.underlying84 (zero_u64 _) (x := (o.path, o.is.name)) ⟨hx, hs⟩ true
    rw [if_pos rfl, ← htv, htk] at h
    exact h
  clear htv
  go_region_held3 (fun w' => w'.cell? ⟨p, 6, none⟩ = some (Value.map (some bc)) ∧ w'.cell? ⟨w.heap.size + 1, 0, none⟩ = some (Value.int .u64 o.path) ∧ w'.cell? ⟨w.heap.size + 1, 1, none⟩ = some (Value.string o.is.name)) (first | exact SL.out _ W1.out.drew) (first | fail)
  rename_i hh
  clear hh
  have W2 := Lib.hid W1.out.drew
  clear W1 SL hL
  obtain ⟨w2, hw2⟩ : ∃ w2, w2 = w1.drew := ⟨_, rfl⟩
  rw [← hw2] at W2 ⊢
  clear hw2
  obtain ⟨o0, o1, o2, o3, o4, o5, o6, o7, o8, o9, o10, o11, o12, o13, o14, o15, o16, o17, o18, o19, a0, a1, s2, s4, s6⟩ := W2.out.cells
  go_wp2_with (first | (go_at_call 66; refine (ISD.out _ W2.out.nd).mono ?_; rintro e w3 ⟨rfl, rfl⟩) | (go_at_call 67; refine (MAY.out _).mono ?_; rintro e w4 ⟨rfl, k4⟩; have W4 := Lib.hid (W2.out.kept k4); obtain ⟨o0, o1, o2, o3, o4, o5, o6, o7, o8, o9, o10, o11, o12, o13, o14, o15, o16, o17, o18, o19, a0, a1, s2, s4, s6⟩ := W4.out.cells) | (go_at_call 68; refine (CHK.out _).mono ?_; rintro e w5 ⟨rfl, k5⟩; have W5 := Lib.hid (W4.out.kept k5); obtain ⟨o0, o1, o2, o3, o4, o5, o6, o7, o8, o9, o10, o11, o12, o13, o14, o15, o16, o17, o18, o19, a0, a1, s2, s4, s6⟩ := W5.out.cells))
  have SL5 : Hid (∀ w', MkW w w' p lk most next bn bc ps nc fc n1 f b d lb ks m o → w'.cell? ⟨p, 2, none⟩ = some (Value.int .i64 most) ∧ w'.cell? ⟨p, 4, none⟩ = some (Value.map (some bn))) := fun w' h => ⟨h.cells.s2, h.cells.s4⟩
  obtain ⟨es5, ck5, hb5, hs5, -⟩ := W5.out.mn
  have hLen : ∀ W', W'.heap[bn]? = some (.map es5 ck5) → (Builtin.len_ #[83] 3 #[.map (some bn)]).run Try.prog W' = .ok (.int .i64 n1) W' := fun W' h => by
    rw [← hs5]
    simp [Builtin.len_, run_underlying Try.underlying83, MapKept.run_getObj_map h, goInt, Result.andThen]
  go_region_held3 (fun w' => w'.heap[bn]? = some (.map es5 ck5) ∧ w'.cell? ⟨p, 2, none⟩ = some (Value.int .i64 most) ∧ w'.cell? ⟨p, 4, none⟩ = some (Value.map (some bn))) (first | exact ⟨hb5, SL5.out _ W5.out.drew⟩) (first | fail)
  rename_i hh
  clear hh
  go_wp2_with fail
  go_ret2
  exact ⟨rfl, W5.out.k.drew⟩
set_option maxRecDepth 100000 in
set_option maxHeartbeats 8000000 in
theorem make_ok (w : World) (p : Nat) (lk : Int) (most next bn bc : Nat) (ps : Value) (nc : Nat) (fc : Nat × ByteArray → Option Value) (n1 : Nat) (f : Nat → Option Value) (b : Nat) (d : Is) (lb : Int) (ks : Value) (m : Nat) (o : OpV)
    (hp : StAt w p lk most next bn ps bc) (hc : Mp pK w bc nc fc) (hmn : Mp nK w bn n1 f) (hn : NdAt w b d lb ks m) (hx : o.path < 18446744073709551616) (hs : o.is.name.size ≤ maxLen) (hz : o.is.name.size ≤ 140737488355328) (u1 : o.is.uid.size ≤ 140737488355328) (u2 : o.is.gid.size ≤ 140737488355328) (u3 : o.is.muid.size ≤ 140737488355328) (hd : isDirM d.mode = true) (hok : newOk o.is = true) (hch : Nm.chk o.is.name = true) (hfree : n1 < most) (n : Nat) (xs : List Value) (k : Nat) (ys : List Value) (hr : w.ownsRow 0 30 1 ps n xs) (hkr : w.ownsRow 0 30 1 ks k ys) (hpk : ∀ g, ps.ownBlock = some g → ks.ownBlock ≠ some g) (hbb : bc ≠ bn) (hf : f next = none) (hnn : n < 1000000000) (hkk : k < 1000000000) (hnx : next < 1000000000000) (htk : (fc (o.path, o.is.name)).isSome = false) :
    Calls Try.prog 43 #[.pointer (some ⟨p, 0, none⟩), .pointer (some ⟨b, 0, none⟩), .agg (opL o).toArray] w fun e w' => ∃ ps' b' m' g cap, e = .returned (.tuple #[.int .u64 next, .int .i64 0]) ∧ MakeEnd w w' p lk most next bn bc ps nc fc n1 f b d lb ks m o n xs k ys ps' b' m' g cap := by
  have ISD := Lib.hid (fun W h => isDir_any W b d lb ks m h)
  have MAY := Lib.hid (fun W => maySet15_any W o.is o.ik u1 u2 u3)
  have CHK := Lib.hid (fun W => Nm.check_any W o.is.name hz)
  simp only [hd] at ISD
  simp only [hok] at MAY
  simp only [hch] at CHK
  have hfi : ¬ (most : Int) ≤ (n1 : Int) := by omega
  have PUT := Lib.hid (fun W (h : MkW w W p lk most next bn bc ps nc fc n1 f b d lb ks m o) => put_any W p lk most next bn bc ps (newIs o) n n1 xs f h.st (row_kept hr h.k (fun g _ hm => by cases hm)) h.mn hf hnn hnx)
  simp only [isL, newIs, z0] at PUT
  have hpl := hp.lt
  have hbl := hn.lt
  have hnl := hmn.lt
  have hcl := hc.lt
  simp only [isL] at MAY
  unfold opL
  obtain ⟨-, c2, c3, c4, c5, c6⟩ := StAt.cells hp
  go_enter Try.func43, Try.ntmps43
  go_wp2_with fail
  obtain ⟨w1, hw1⟩ : ∃ w1, w1 = (w.alloc (.cells #[.int .u8 o.kind, .int .u64 o.path, .string o.name, .int .u8 o.mask, .int .u64 o.is.path, .int .u64 o.is.parent, .string o.is.name, .int .u32 o.is.mode, .string o.is.uid, .string o.is.gid, .string o.is.muid, .int .u32 o.is.atime, .int .u32 o.is.mtime, .int .u32 o.is.vers, .int .u64 o.is.length, .int .i64 o.is.opens, .int .i64 o.ik, .int .u64 o.offset, o.data, .int .i64 o.n] 55)).alloc (.cells #[.int .u64 o.path, .string o.is.name] 123) := ⟨_, rfl⟩
  have W1 : Hid (MkW w w1 p lk most next bn bc ps nc fc n1 f b d lb ks m o) := by
    rw [hw1]
    exact ⟨Bx.alloc (Bx.made w _ _) _, alloc_new _ _ _ (by simp), (Bx.alloc hp _).alloc _, (Bx.alloc hn _).alloc _, (hc.alloc _).alloc _, (hmn.alloc _).alloc _, ((Kept.refl [] w).alloc _).alloc _⟩
  rw [← hw1]
  clear hw1 c2 c3 c4 c5 c6
  have SL : Hid (∀ w', MkW w w' p lk most next bn bc ps nc fc n1 f b d lb ks m o → w'.cell? ⟨p, 6, none⟩ = some (Value.map (some bc)) ∧ w'.cell? ⟨w.heap.size + 1, 0, none⟩ = some (Value.int .u64 o.path) ∧ w'.cell? ⟨w.heap.size + 1, 1, none⟩ = some (Value.string o.is.name)) := fun w' h => ⟨h.cells.s6, h.cells.a0, h.cells.a1⟩
  obtain ⟨tv, htv⟩ : ∃ tv, tv = (fc (o.path, o.is.name)).getD (.int .u64 0) := ⟨_, rfl⟩
  have hL : (Instr.lookup 84 (.map (some bc)) (.agg #[.int .u64 o.path, .string o.is.name]) true).run Try.prog w1.drew = .ok (.tuple #[tv, .bool false]) w1.drew := by
    have h := W1.out.drew.mc.look Try.underlying84 (zero_u64 _) (x := (o.path, o.is.name)) ⟨hx, hs⟩ true
    rw [if_pos rfl, ← htv, htk] at h
    exact h
  clear htv
  go_region_held3 (fun w' => w'.cell? ⟨p, 6, none⟩ = some (Value.map (some bc)) ∧ w'.cell? ⟨w.heap.size + 1, 0, none⟩ = some (Value.int .u64 o.path) ∧ w'.cell? ⟨w.heap.size + 1, 1, none⟩ = some (Value.string o.is.name)) (first | exact SL.out _ W1.out.drew) (first | fail)
  rename_i hh
  clear hh
  have W2 := Lib.hid W1.out.drew
  clear W1 SL hL
  obtain ⟨w2, hw2⟩ : ∃ w2, w2 = w1.drew := ⟨_, rfl⟩
  rw [← hw2] at W2 ⊢
  clear hw2
  obtain ⟨o0, o1, o2, o3, o4, o5, o6, o7, o8, o9, o10, o11, o12, o13, o14, o15, o16, o17, o18, o19, a0, a1, s2, s4, s6⟩ := W2.out.cells
  go_wp2_with (first | (go_at_call 66; refine (ISD.out _ W2.out.nd).mono ?_; rintro e w3 ⟨rfl, rfl⟩) | (go_at_call 67; refine (MAY.out _).mono ?_; rintro e w4 ⟨rfl, k4⟩; have W4 := Lib.hid (W2.out.kept k4); obtain ⟨o0, o1, o2, o3, o4, o5, o6, o7, o8, o9, o10, o11, o12, o13, o14, o15, o16, o17, o18, o19, a0, a1, s2, s4, s6⟩ := W4.out.cells) | (go_at_call 68; refine (CHK.out _).mono ?_; rintro e w5 ⟨rfl, k5⟩; have W5 := Lib.hid (W4.out.kept k5); obtain ⟨o0, o1, o2, o3, o4, o5, o6, o7, o8, o9, o10, o11, o12, o13, o14, o15, o16, o17, o18, o19, a0, a1, s2, s4, s6⟩ := W5.out.cells))
  have SL5 : Hid (∀ w', MkW w w' p lk most next bn bc ps nc fc n1 f b d lb ks m o → w'.cell? ⟨p, 2, none⟩ = some (Value.int .i64 most) ∧ w'.cell? ⟨p, 4, none⟩ = some (Value.map (some bn))) := fun w' h => ⟨h.cells.s2, h.cells.s4⟩
  obtain ⟨es5, ck5, hb5, hs5, -⟩ := W5.out.mn
  have hLen : ∀ W', W'.heap[bn]? = some (.map es5 ck5) → (Builtin.len_ #[83] 3 #[.map (some bn)]).run Try.prog W' = .ok (.int .i64 n1) W' := fun W' h => by
    rw [← hs5]
    simp [Builtin.len_, run_underlying Try.underlying83, MapKept.run_getObj_map h, goInt, Result.andThen]
  go_region_held3 (fun w' => w'.heap[bn]? = some (.map es5 ck5) ∧ w'.cell? ⟨p, 2, none⟩ = some (Value.int .i64 most) ∧ w'.cell? ⟨p, 4, none⟩ = some (Value.map (some bn))) (first | exact ⟨hb5, SL5.out _ W5.out.drew⟩) (first | fail)
  rename_i hh
  clear hh
  have W6 := Lib.hid W5.out.drew
  clear W2 W4 W5 SL5
  obtain ⟨w6, hw6⟩ : ∃ w6, w6 = w5.drew := ⟨_, rfl⟩
  rw [← hw6] at W6 ⊢
  clear hw6
  obtain ⟨o0, o1, o2, o3, o4, o5, o6, o7, o8, o9, o10, o11, o12, o13, o14, o15, o16, o17, o18, o19, a0, a1, s2, s4, s6⟩ := W6.out.cells
  have K6 : Hid (w.heap.size ≤ w6.heap.size) := W6.out.k.size
  go_wp2_with (go_at_call 35; refine (PUT.out _ W6.out).mono ?_; rintro e w7 ⟨rfl, ps', b', m', st7, row7, mn7, nd7, dt7, lb7, lm7, ne7, lps7, k7⟩)
  have hB : Hid (w.heap.size ∉ p :: bn :: ps.ownBlock.toList) := fun h => by
    simp only [List.mem_cons, Option.mem_toList] at h
    rcases h with h | h | h
    · omega
    · omega
    · have := (hr.lt _ h).2; omega
  have hB1 : Hid (w.heap.size + 1 ∉ p :: bn :: ps.ownBlock.toList) := fun h => by
    simp only [List.mem_cons, Option.mem_toList] at h
    rcases h with h | h | h
    · omega
    · omega
    · have := (hr.lt _ h).2; omega
  have B7 : Hid (Bx w7 (w.heap.size + 1) 123 #[.int .u64 o.path, .string o.is.name]) := W6.out.pl.kept k7 hB1.out
  have hpbc : Hid (p ≠ bc) := fun e => hc.ne hp e.symm
  have C7 : Hid (Mp pK w7 bc nc fc) := W6.out.mc.kept k7 (fun h => by
    simp only [List.mem_cons, Option.mem_toList] at h
    rcases h with h | h | h
    · exact hpbc.out h.symm
    · exact hbb h
    · exact row_ne_map hc hr _ h rfl)
  have N7 : Hid (NdAt w7 b d lb ks m) := W6.out.nd.kept k7 (fun h => by
    simp only [List.mem_cons, Option.mem_toList] at h
    rcases h with h | h | h
    · exact Bx.ne hn hp (by decide) h
    · exact hmn.ne hn h.symm
    · exact row_ne hr hn (by decide) _ h rfl)
  have K7 : Hid (Kept (p :: bn :: ps.ownBlock.toList) w w7) := (W6.out.k.mono (fun i hi => by cases hi)).trans k7 (fun i hi => Or.inl hi)
  have KR7 : Hid (w7.ownsRow 0 30 1 ks k ys) := row_kept hkr K7.out (fun g hg h => by
    simp only [List.mem_cons, Option.mem_toList] at h
    rcases h with h | h | h
    · exact row_ne hkr hp (by decide) g hg h
    · exact row_ne_map hmn hkr g hg h
    · exact hpk g h hg)
  have s76 := st7.cell 6 (v := .map (some bc)) rfl
  have a70 := B7.out.cell 0 rfl
  have a71 := B7.out.cell 1 rfl
  have SL7 : Hid (∀ w' ps2, StAt w' p lk most (next + 1) bn ps2 bc → Bx w' (w.heap.size + 1) 123 #[.int .u64 o.path, .string o.is.name] → w'.cell? ⟨p, 6, none⟩ = some (Value.map (some bc)) ∧ w'.cell? ⟨w.heap.size + 1, 0, none⟩ = some (Value.int .u64 o.path) ∧ w'.cell? ⟨w.heap.size + 1, 1, none⟩ = some (Value.string o.is.name)) := fun w' ps2 h1 h2 => ⟨h1.cell 6 rfl, h2.cell 0 rfl, h2.cell 1 rfl⟩
  obtain ⟨w8, hU, C8', k8, s8⟩ := C7.out.drew.update Try.underlying84 (x := (o.path, o.is.name)) ⟨hx, hs⟩ (.int .u64 (next : Int))
  rw [htk, if_neg (by decide)] at C8'
  have hU2 : (Instr.mapUpdate 84 (.map (some bc)) (.agg #[.int .u64 o.path, .string o.is.name]) (.int .u64 next)).run Try.prog w7.drew = .ok () w8 := hU
  have P8 : Hid (StAt w8 p lk most (next + 1) bn ps' bc) := (Bx.drew st7).kept k8 (fun h => hpbc.out (by rwa [List.mem_singleton] at h))
  have B8 : Hid (Bx w8 (w.heap.size + 1) 123 #[.int .u64 o.path, .string o.is.name]) := B7.out.drew.kept k8 (fun h => by rw [List.mem_singleton] at h; omega)
  have C8 := Lib.hid C8'
  have st7h := Lib.hid st7
  clear hU C8' W6 hB hB1 o0 o1 o2 o3 o4 o5 o6 o7 o8 o9 o10 o11 o12 o13 o14 o15 o16 o17 o18 o19 a0 a1 s2 s4 s6 st7
  go_wp2_with fail
  go_region_held3 (fun w' => w'.cell? ⟨p, 6, none⟩ = some (Value.map (some bc)) ∧ w'.cell? ⟨w.heap.size + 1, 0, none⟩ = some (Value.int .u64 o.path) ∧ w'.cell? ⟨w.heap.size + 1, 1, none⟩ = some (Value.string o.is.name)) (first | exact SL7.out _ _ (Bx.drew st7h.out) B7.out.drew | exact SL7.out _ _ P8.out B8.out) (first | fail)
  rename_i hh
  clear hh hU2 s76 a70 a71
  have N8 : Hid (NdAt w8 b d lb ks m) := N7.out.drew.kept k8 (fun h => by rw [List.mem_singleton] at h; exact hc.ne hn h.symm)
  have KR8 : Hid (w8.ownsRow 0 30 1 ks k ys) := row_kept (w := w7.drew) KR7.out k8 (fun g hg h => by rw [List.mem_singleton] at h; exact row_ne_map hc hkr g hg h)
  have WITH := Lib.hid (with_any w8 ks k next ys KR8.out hkk)
  have n15 := N8.out.cell 15 (v := ks) rfl
  go_wp2_with (go_at_call 61; refine WITH.out.mono ?_; rintro e w9 ⟨g, cap, rfl, hr9, k9, hg9, lg9⟩; have N9 : Hid (NdAt w9 b d lb ks m) := N8.out.kept k9 (fun h => row_ne hkr hn (by decide) b (by simpa using h) rfl); have n95 := N9.out.cell 15 (v := ks) rfl; have nf9 := N9.out.frozen)
  go_ret2
  have kp : Kept [b] w9 (w9.setCell ⟨b, 15, none⟩ (.slice (some ⟨g, 0, none⟩) (k + 1) cap)) := (Kept.refl [b] w9).setCell (p := ⟨b, 15, none⟩) (Or.inl (by simp)) _
  have inks : ∀ q, (∀ g, ks.ownBlock = some g → g ≠ q) → q ∉ ks.ownBlock.toList := fun q hq hm => hq q (by simpa using hm) rfl
  have inb : ∀ q, q ≠ b → q ∉ [b] := fun q hq hm => hq (by rwa [List.mem_singleton] at hm)
  have inbc : ∀ q, q ≠ bc → q ∉ [bc] := fun q hq hm => hq (by rwa [List.mem_singleton] at hm)
  have hks : ∀ g, ks.ownBlock = some g → g < w.heap.size := fun g hg => (hkr.lt g hg).2
  have s6 : w.heap.size ≤ w6.heap.size := (Nat.le_trans (Nat.le_refl _) K6.out)
  have hrows : ∀ h, ps'.ownBlock = some h → ks.ownBlock ≠ some h := by
    intro h hh hk
    rcases lps7 with e | ⟨q, e, lq⟩
    · exact hpk h (e ▸ hh) hk
    · rw [e] at hh; cases hh; have := hks _ hk; omega
  refine ⟨ps', b', m', g, cap, rfl, ⟨?_, ?_, ?_, ?_, ?_, ?_, ?_, ?_, ?_, ?_, ne7, ?_, ?_, ?_, ?_⟩⟩
  · exact (P8.out.kept k9 (inks p (row_ne hkr hp (by decide)))).kept kp (inb p (Bx.ne hp hn (by decide)))
  · refine row_kept (row_kept (row_kept (w := w7.drew) row7 k8 (fun g hg h => by rw [List.mem_singleton] at h; exact row_ne_map C7.out row7 g hg h)) k9 (fun g hg h => hrows g hg (by simpa using h))) kp (fun q hq h => ?_)
    rw [List.mem_singleton] at h
    exact row_ne row7 N7.out (by decide) q hq h
  · exact ((Mp.kept (w := w7.drew) mn7 k8 (inbc bn (fun e => hbb e.symm))).kept k9 (inks bn (row_ne_map hmn hkr))).kept kp (inb bn (hmn.ne hn))
  · exact (C8.out.kept k9 (inks bc (row_ne_map hc hkr))).kept kp (inb bc (hc.ne hn))
  · exact ((Bx.kept (w := w7.drew) nd7 k8 (inbc b' (by omega))).kept k9 (inks b' (fun g hg => by have := hks g hg; omega))).kept kp (inb b' (by omega))
  · have l7 := (Array.getElem?_eq_some_iff.1 dt7).1
    have e8 : w8.heap[m']? = some (.map #[] 0) := (k8.block m' l7 (inbc m' (by omega))).trans dt7
    have l8 := (Array.getElem?_eq_some_iff.1 e8).1
    have e9 := (k9.block m' l8 (inks m' (fun g hg => by have := hks g hg; omega))).trans e8
    exact (kp.block m' (Array.getElem?_eq_some_iff.1 e9).1 (inb m' (by omega))).trans e9
  · exact Bx.set N9.out 15 _
  · exact row_kept hr9 kp (fun q hq h => by rw [List.mem_singleton] at h; exact row_ne hr9 N9.out (by decide) q hq h)
  · omega
  · omega
  · rcases lps7 with e | ⟨q, e, lq⟩
    · exact Or.inl e
    · exact Or.inr ⟨q, e, by omega⟩
  · rcases hg9 with e | e
    · exact Or.inl e
    · exact Or.inr (by have := k7.size; have := k8.size; have e8 : w7.drew.heap.size = w7.heap.size := rfl; omega)
  · intro h hh e
    subst e
    rcases hg9 with e | e
    · exact hrows h hh e
    · have l := (row7.lt h hh).2
      have := k8.size
      have e8 : w7.drew.heap.size = w7.heap.size := rfl
      omega
  · refine (((K7.out.drew.mono (T := p :: bn :: bc :: b :: (ps.ownBlock.toList ++ ks.ownBlock.toList)) (fun i hi => Or.inl (by simp only [List.mem_cons, List.mem_append] at hi ⊢; rcases hi with h | h | h <;> simp [h]))).trans k8 (fun i hi => Or.inl (by rw [List.mem_singleton] at hi; simp [hi]))).trans k9 (fun i hi => Or.inl (by simp only [List.mem_cons, List.mem_append]; simp [hi]))).trans kp (fun i hi => Or.inl (by rw [List.mem_singleton] at hi; simp [hi]))
end Nd
end Go.Proofs.Ytihkldcdikbinaa
