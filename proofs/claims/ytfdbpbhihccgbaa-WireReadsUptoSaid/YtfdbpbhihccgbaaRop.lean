/- What NewReader, Text, Part and Raw of a reader do. -/
import Derived.Test.YtfdbpbhihccgbaaCnt
import Derived.Lib.BufferRead
import Derived.Laws.IdiomStrings
namespace Go.Proofs.Ytfdbpbhihccgbaa
set_option linter.unusedVariables false
open Go.RowKit

/-- A text is read. -/
def str (l : List UInt8) : ByteArray := ⟨l.toArray⟩
def RS.text (st : RS) : RS :=
  if st.counted.err ≠ 0 then st.counted else if Utf.good (str st.piece) = false then st.counted.failAt 12 (st.counted.pos + 2 + Utf.bad (str st.piece)) else st.counted.next (2 + st.piece.length)
def RS.said (st : RS) : ByteArray := if st.counted.err ≠ 0 then str [] else if Utf.good (str st.piece) = false then str [] else str st.piece
/-- A part: what is left of the reader; and the part's own. -/
def RS.past (st : RS) : RS := if st.counted.err ≠ 0 then st.counted else st.counted.next (2 + st.piece.length)
def RS.part (st : RS) : RS := if st.counted.err ≠ 0 then ⟨[], st.counted.bad, st.counted.err, st.counted.bad⟩ else ⟨st.piece, st.past.pos - st.piece.length, 0, 0⟩

theorem own_slice_b {w : World} {B : Nat} {e : TypeId} {v : Value} {n : Nat} {xs : List Value} (h : w.ownsRow B e 1 v n xs) : ∃ a c, v = .slice a n c := by
  rcases h.2 with ⟨rfl, rfl⟩ | ⟨g, cap, cur, rfl, _⟩
  · exact ⟨_, _, rfl⟩
  · exact ⟨_, _, rfl⟩
/-- A new reader came out. -/
def Newly (w : World) (bs : List UInt8) (e : Ending) (w' : World) : Prop :=
  ∃ r T', e = .returned (.pointer (some ⟨r, 0, none⟩)) ∧ Hid (Rd w' r T' ⟨bs, 0, 0, 0⟩) ∧ Kept [] w w' ∧ w.heap.size ≤ r ∧ Hid (∀ k ∈ T', w.heap.size ≤ k ∧ k < w'.heap.size)

namespace Rdr
open Go.Proofs.Ytfdbpbhihccgbaa.Txt

set_option maxRecDepth 100000 in
/-- A new reader. -/
theorem new_any (w : World) (v : Value) (bs : List UInt8) (T : List Nat) (hsz : bs.length ≤ 1152921504606) (hb : Hid (Src w v bs T)) :
    Calls Try.prog 18 #[v] w (Newly w bs) := by
  go_enter Try.func18, Try.ntmps18
  go_wp2_with fail
  refine (Wrt.clone_any _ v bs T hsz hb).mono ?_
  rintro e w1 ⟨v', rfl, h1, k1⟩
  have h1' : w1.ownsRow w.heap.size 5 1 v' bs.length (bs.map bv) := h1.out
  obtain ⟨a, c, rfl⟩ := own_slice_b h1'
  have H1 := Lib.hid h1'
  clear h1'
  go_wp2_with fail
  go_ret
  have hk : Kept [] w1 (w1.alloc (.cells #[.slice a bs.length c, .int .i64 0, .int .i64 0, .int .i64 0] 86)) := (Kept.refl _ _).alloc _
  have hl := H1.out.lt
  refine ⟨w1.heap.size, _, rfl, ⟨_, heap_alloc_new w1 _, (Seg.of_own H1.out).kept hk (fun k _ hm => by simp at hm), fun hm => ?_⟩, k1.trans hk (fun i hi => Or.inl hi), k1.size, fun k hm => ?_⟩
  · have := hl _ (by simpa using hm); omega
  · have := hl _ (by simpa using hm); simp; omega

theorem conv_seg {w : World} {v : Value} {bs : List UInt8} {T : List Nat} (h : Seg w v bs T) : (convert 37 9 v).run Try.prog w = .ok (.string (str bs)) w := by
  rcases h with ⟨rfl, rfl⟩ | ⟨b, o, c, rfl, _, _, h4⟩
  · exact Lib.run_convert_nil_bytes w 37 9 5 0 Try.underlying37 Try.underlying5 Try.underlying9
  · exact run_convert_bytes_back w 37 9 5 ⟨b, o, none⟩ c bs Try.underlying37 Try.underlying5 Try.underlying9 (fun j hj => by
      rw [Addr.add_lit]
      exact h4 j _ (by rw [List.getElem?_map, List.getElem?_eq_getElem hj]; rfl))

theorem str_size (l : List UInt8) : (str l).size = l.length := by simp [str, ByteArray.size]

theorem RS.Ok.counted {st : RS} (h : st.Ok) : st.counted.Ok := by
  unfold RS.counted
  have h2 : st.peek.Ok := (h.next 2).next _
  split
  · exact h
  · exact h.fail _ h2.e1 h2.e2
theorem RS.piece_le (st : RS) : st.piece.length ≤ 65535 := Nat.le_trans (RS.got_length _ _) (RS.cnt_lt st)

theorem first_ok (s : ByteArray) (w : World) (hs : s.size ≤ 140737488355328) (h : Hid (Utf.good s = true)) :
    Calls Try.prog 68 #[.string s] w fun e w' => e = .returned (.tuple #[.int .i64 0, .bool false]) ∧ Below w.heap.size w w' :=
  first_any s w hs 0 false (Or.inr ⟨of_decide_eq_true h.out, rfl, rfl⟩)
theorem first_not (s : ByteArray) (w : World) (hs : s.size ≤ 140737488355328) (h : Hid (Utf.good s = false)) :
    Calls Try.prog 68 #[.string s] w fun e w' => e = .returned (.tuple #[.int .i64 (Utf.bad s), .bool true]) ∧ Below w.heap.size w w' :=
  first_any s w hs (Utf.bad s) true (Or.inl ⟨by have := Utf.bad_le s; have := of_decide_eq_false h.out; omega, rfl, rfl⟩)

def TextOut (w : World) (r : Nat) (T : List Nat) (st : RS) (e : Ending) (w' : World) : Prop := e = .returned (.string st.said) ∧ Hid (Rd w' r T st.text) ∧ Kept [r] w w'

set_option maxHeartbeats 400000 in
theorem text_any (w : World) (r : Nat) (T : List Nat) (st : RS) (hT : Hid (∀ k ∈ T, k < w.heap.size)) (ok : Hid st.Ok) (h : Hid (Rd w r T st)) :
    Calls Try.prog 33 #[.pointer (some ⟨r, 0, none⟩)] w (TextOut w r T st) := by
  have okc : Hid st.counted.Ok := RS.Ok.counted ok.out
  have hpl := RS.piece_le st
  have hrT : Hid (∀ k ∈ T, k ∉ [r]) := by
    obtain ⟨v, _, _, hr⟩ := h.out
    exact fun k hk hm => by simp at hm; exact hr (hm ▸ hk)
  have hposc := okc.out.pos
  by_cases he : st.counted.err = 0
  · have E : (st.counted.err == 0) = true := by rw [he]; rfl
    by_cases hg : Utf.good (str st.piece) = true
    · have e1 : st.text = st.counted.next (2 + st.piece.length) := by unfold RS.text; rw [if_neg (by omega), if_neg (by simp [hg])]
      have e2 : st.said = str st.piece := by unfold RS.said; rw [if_neg (by omega), if_neg (by simp [hg])]
      have hsz := str_size st.piece
      have hF : Hid (Utf.good (str st.piece) = true) := hg
      have E1 := Lib.hid e1
      have E2 := Lib.hid e2
      obtain ⟨s, hs⟩ : ∃ s, s = str st.piece := ⟨_, rfl⟩
      rw [← hs] at hF
      have HS := Lib.hid hs
      have hss : s.size ≤ 65535 := by rw [hs, hsz]; exact hpl
      have hnn : Hid (2 + (s.size : Int) = ((2 + st.piece.length : Nat) : Int)) := by rw [hs, hsz]; show _ = _; omega
      clear he hg e1 e2 hs hsz
      go_enter Try.func33, Try.ntmps33
      go_wp2_with fail
      refine (counted_any _ r T st hT ok h).mono ?_
      rintro e w1 ⟨v, rfl, hv, h1, k1⟩
      have hcv : (convert 37 9 v).run Try.prog w1 = .ok (.string s) w1 := by rw [HS.out]; exact conv_seg hv.out
      go_wp2_with fail
      refine (first_ok s _ (by omega) hF).mono ?_
      rintro e w2 ⟨rfl, hb⟩
      have k2 := Kept.of_below hb []
      have h2 : Hid (Rd w2 r T st.counted) := h1.out.kept k2 (by simp) (fun k _ hm => by simp at hm)
      have K2 : Hid (Kept [r] w w2) := k1.trans k2 (fun i hi => by simp at hi)
      clear hb k2 hcv k1
      go_wp2_with fail
      refine (next_any _ r T _ _ (2 + st.piece.length) hnn.out okc h2).mono ?_
      rintro e w3 ⟨v3, rfl, hv3, h3, k3⟩
      have K3 : Hid (Kept [r] w w3) := K2.out.trans k3 (fun i hi => Or.inl hi)
      clear k3
      go_wp2_with fail
      go_ret
      exact ⟨Txt.ret_str (by rw [E2.out, ← HS.out]), by rw [E1.out]; exact h3, K3.out⟩
    · have hg' : Utf.good (str st.piece) = false := by simpa using hg
      have e1 : st.text = st.counted.failAt 12 (st.counted.pos + 2 + Utf.bad (str st.piece)) := by unfold RS.text; rw [if_neg (by omega), if_pos hg']
      have e2 : st.said = str [] := by unfold RS.said; rw [if_neg (by omega), if_pos hg']
      have hsz := str_size st.piece
      have hF : Hid (Utf.good (str st.piece) = false) := hg'
      have E1 := Lib.hid e1
      have E2 := Lib.hid e2
      obtain ⟨s, hs⟩ : ∃ s, s = str st.piece := ⟨_, rfl⟩
      rw [← hs] at hF
      have HS := Lib.hid hs
      have hss : s.size ≤ 65535 := by rw [hs, hsz]; exact hpl
      have hbl := Utf.bad_le s
      have hnn : Hid ((st.counted.pos : Int) + 2 + (Utf.bad s : Int) = ((st.counted.pos + 2 + Utf.bad s : Nat) : Int)) := by show _ = _; omega
      clear he hg hg' e1 e2 hs hsz
      go_enter Try.func33, Try.ntmps33
      go_wp2_with fail
      refine (counted_any _ r T st hT ok h).mono ?_
      rintro e w1 ⟨v, rfl, hv, h1, k1⟩
      have hcv : (convert 37 9 v).run Try.prog w1 = .ok (.string s) w1 := by rw [HS.out]; exact conv_seg hv.out
      go_wp2_with fail
      refine (first_not s _ (by omega) hF).mono ?_
      rintro e w2 ⟨rfl, hb⟩
      have k2 := Kept.of_below hb []
      have h2 : Hid (Rd w2 r T st.counted) := h1.out.kept k2 (by simp) (fun k _ hm => by simp at hm)
      have K2 : Hid (Kept [r] w w2) := k1.trans k2 (fun i hi => by simp at hi)
      obtain ⟨v2, c0, c1, c2, c3, fz, -⟩ := h2.out.parts
      clear hb k2 hcv k1
      go_wp2_with fail
      refine (failAt_any _ r T _ 12 _ (st.counted.pos + 2 + Utf.bad s) hnn.out h2).mono ?_
      rintro e w3 ⟨rfl, h3, k3⟩
      have K3 : Hid (Kept [r] w w3) := K2.out.trans k3 (fun i hi => Or.inl hi)
      clear k3
      go_wp2_with fail
      go_ret
      exact ⟨Txt.ret_str (by rw [E2.out]; rfl), by rw [E1.out, ← HS.out]; exact h3, K3.out⟩
  · have E : (st.counted.err == 0) = false := by simpa using he
    have e1 : st.text = st.counted := by unfold RS.text; rw [if_pos he]
    have e2 : st.said = str [] := by unfold RS.said; rw [if_pos he]
    have E1 := Lib.hid e1
    have E2 := Lib.hid e2
    clear he e1 e2
    go_enter Try.func33, Try.ntmps33
    go_wp2_with fail
    refine (counted_any _ r T st hT ok h).mono ?_
    rintro e w1 ⟨v, rfl, hv, h1, k1⟩
    go_wp2_with fail
    go_ret
    exact ⟨Txt.ret_str (by rw [E2.out]; rfl), by rw [E1.out]; exact h1, k1⟩

theorem RS.fail_zero {st : RS} {e : Int} (h : (st.fail e).err = 0) : st.err = 0 ∧ e = 0 := by
  unfold RS.fail RS.failAt at h
  split at h
  · rename_i k; exact ⟨k.1, h⟩
  · rename_i k; exact ⟨h, by omega⟩
theorem RS.next_zero {st : RS} {n : Nat} (h : (st.next n).err = 0) : st.err = 0 ∧ n ≤ st.left.length ∧ st.next n = { st with left := st.left.drop n, pos := st.pos + n } ∧ st.got n = st.left.take n := by
  by_cases k : st.left.length < n
  · unfold RS.next at h
    rw [if_pos k] at h
    exact absurd (RS.fail_zero h).2 (by decide)
  · by_cases e : st.err ≠ 0
    · unfold RS.next at h
      rw [if_neg k, if_pos e] at h
      exact absurd h e
    · unfold RS.next RS.got
      rw [if_neg k, if_neg e, if_neg k, if_neg e]
      exact ⟨by omega, by omega, rfl, rfl⟩
/-- Where the count and its bytes are there. -/
theorem RS.counted_zero {st : RS} (h : st.counted.err = 0) : st.counted = st ∧ st.err = 0 ∧ 2 + st.piece.length ≤ st.left.length ∧ st.piece = (st.left.drop 2).take st.cnt ∧ st.piece.length = st.cnt ∧ st.cnt = leval (st.left.take 2) := by
  have hp : st.peek.err = 0 := by
    by_cases hp : st.peek.err = 0
    · exact hp
    · unfold RS.counted at h
      rw [if_neg hp] at h
      exact absurd (RS.fail_zero h).2 hp
  have e0 : st.counted = st := by unfold RS.counted; rw [if_pos hp]
  obtain ⟨a1, a2, a3, a4⟩ := RS.next_zero hp
  obtain ⟨b1, b2, b3, b4⟩ := RS.next_zero a1
  have hl : (st.next 2).left = st.left.drop 2 := by rw [b3]
  have hpc : st.piece = (st.left.drop 2).take st.cnt := by unfold RS.piece; rw [a4, hl]
  rw [hl] at a2
  have hpl : st.piece.length = st.cnt := by rw [hpc, List.length_take, Nat.min_eq_left a2]
  refine ⟨e0, b1, ?_, hpc, hpl, by unfold RS.cnt; rw [b4]⟩
  rw [List.length_drop] at a2
  omega

def PartOut (w : World) (r : Nat) (T : List Nat) (st : RS) (e : Ending) (w' : World) : Prop :=
  ∃ q, e = .returned (.pointer (some ⟨q, 0, none⟩)) ∧ w.heap.size ≤ q ∧ Hid (Rd w' q T st.part) ∧ Hid (Rd w' r T st.past) ∧ Kept [r] w w'

set_option maxHeartbeats 400000 in
theorem part_any (w : World) (r : Nat) (T : List Nat) (st : RS) (hT : Hid (∀ k ∈ T, k < w.heap.size)) (ok : Hid st.Ok) (h : Hid (Rd w r T st)) :
    Calls Try.prog 31 #[.pointer (some ⟨r, 0, none⟩)] w (PartOut w r T st) := by
  have okc : Hid st.counted.Ok := RS.Ok.counted ok.out
  have hpl := RS.piece_le st
  have hrT : Hid (∀ k ∈ T, k ∉ [r]) := by
    obtain ⟨v, _, _, hr⟩ := h.out
    exact fun k hk hm => by simp at hm; exact hr (hm ▸ hk)
  have hposc := okc.out.pos
  have hlt := h.out.lt
  by_cases he : st.counted.err = 0
  · have E : (st.counted.err == 0) = true := by rw [he]; rfl
    have e1 : st.past = st.counted.next (2 + st.piece.length) := by unfold RS.past; rw [if_neg (by omega)]
    have e2 : st.part = ⟨st.piece, st.past.pos - st.piece.length, 0, 0⟩ := by unfold RS.part; rw [if_neg (by omega)]
    have hpp : st.piece.length ≤ st.past.pos ∧ st.past.pos ≤ 1152921504606846976 := by
      obtain ⟨q1, q2, q3, q4, q5, q6⟩ := RS.counted_zero he
      have e3 : st.past = { st with left := st.left.drop (2 + st.piece.length), pos := st.pos + (2 + st.piece.length) } := by
        rw [e1, q1]; unfold RS.next; rw [if_neg (by omega), if_neg (by omega)]
      have := ok.out.pos
      rw [e3]
      show st.piece.length ≤ st.pos + (2 + st.piece.length) ∧ st.pos + (2 + st.piece.length) ≤ _
      omega
    have E1 := Lib.hid e1
    have E2 := Lib.hid e2
    clear he e1 e2
    go_enter Try.func31, Try.ntmps31
    go_wp2_with fail
    refine (counted_any _ r T st hT ok h).mono ?_
    rintro e w1 ⟨v, rfl, hv, h1, k1⟩
    have K1 := Lib.hid k1
    clear k1
    have hvs := hv.out.slice
    obtain ⟨a, c, rfl⟩ := hvs
    go_wp2_with fail
    refine (next_any _ r T _ _ (2 + st.piece.length) (by omega) okc h1).mono ?_
    rintro e w3 ⟨v3, rfl, hv3, h3, k3⟩
    have K3 : Hid (Kept [r] w w3) := K1.out.trans k3 (fun i hi => Or.inl hi)
    have hv4 : Hid (Seg w3 (.slice a st.piece.length c) st.piece T) := hv.out.kept k3 hrT.out
    rw [← E1.out] at h3
    obtain ⟨v2, c0, c1, c2, c3, fz, -⟩ := h3.out.parts
    clear k3
    go_wp2_with fail
    go_ret
    have hk : Kept [] w3 (w3.alloc (.cells #[.slice a st.piece.length c, .int .i64 ((st.past.pos : Int) - (st.piece.length : Int)), .int .i64 0, .int .i64 0] 86)) := (Kept.refl _ _).alloc _
    refine ⟨w3.heap.size, rfl, K3.out.size, ⟨.slice a st.piece.length c, ?_, ?_, fun hm => by have := hT.out _ hm; have := K3.out.size; omega⟩, h3.out.kept hk (by simp) (fun k _ hm => by simp at hm), K3.out.trans hk (fun i hi => by simp at hi)⟩
    · have e4 : ((st.past.pos - st.piece.length : Nat) : Int) = (st.past.pos : Int) - (st.piece.length : Int) := by omega
      rw [E2.out]
      have e5 := heap_alloc_new w3 (.cells #[.slice a st.piece.length c, .int .i64 ((st.past.pos : Int) - (st.piece.length : Int)), .int .i64 0, .int .i64 0] 86)
      rw [← e4] at e5 ⊢
      exact e5
    · rw [E2.out]
      exact hv4.out.kept hk (fun k _ hm => by simp at hm)
  · have E : (st.counted.err == 0) = false := by simpa using he
    have e1 : st.past = st.counted := by unfold RS.past; rw [if_pos he]
    have e2 : st.part = ⟨[], st.counted.bad, st.counted.err, st.counted.bad⟩ := by unfold RS.part; rw [if_pos he]
    have E1 := Lib.hid e1
    have E2 := Lib.hid e2
    clear he e1 e2
    go_enter Try.func31, Try.ntmps31
    go_wp2_with fail
    refine (counted_any _ r T st hT ok h).mono ?_
    rintro e w1 ⟨v, rfl, hv, h1, k1⟩
    obtain ⟨v2, c0, c1, c2, c3, fz, -⟩ := h1.out.parts
    go_wp2_with fail
    go_region
    all_goals
      go_wp2_with fail
      go_ret
    all_goals
      have hk : Kept [] w1 ((w1.alloc (.cells #[.slice none 0 0, .int .i64 st.counted.bad, .int .i64 st.counted.err, .int .i64 st.counted.bad] 86)).drew) := ((Kept.refl _ _).alloc _).drew
      refine ⟨w1.heap.size, rfl, k1.size, ⟨.slice none 0 0, ?_, ?_, fun hm => by have := hT.out _ hm; have := k1.size; omega⟩, ?_, k1.trans hk (fun i hi => by simp at hi)⟩
      · rw [E2.out]; exact heap_alloc_new w1 _
      · rw [E2.out]; exact Seg.empty _ _
      · rw [E1.out]; exact h1.out.kept hk (by simp) (fun k _ hm => by simp at hm)
end Rdr
end Go.Proofs.Ytfdbpbhihccgbaa
