/- A file's record as the chapter tells it: its numbers and texts, its bytes; what a writer has of it and what a reader gets. No program's run. -/
import Derived.Test.YtdbhdajedgkpbaaRg4
import Derived.Test.YtdbhdajedgkpbaaWsh
import Derived.Test.YtdbhdajedgkpbaaWos
import Derived.Test.YtdbhdajedgkpbaaDnw
namespace Go.Proofs.Ytdbhdajedgkpbaa
set_option linter.unusedVariables false

/-- What is wrong with a text. -/
def terr (t : ByteArray) : Nat := if 65535 < t.size then 13 else if Utf.good t = false then 12 else 0
def tbs (t : ByteArray) : List UInt8 := le 2 t.size ++ t.data.toList
theorem terr_zero {t : ByteArray} (h : terr t = 0) : t.size ≤ 65535 ∧ Utf.good t = true := by
  unfold terr at h
  split at h
  · cases h
  · split at h
    · cases h
    · rename_i h1 h2
      exact ⟨by omega, by simpa using h2⟩
theorem tbs_length (t : ByteArray) : (tbs t).length = 2 + t.size := by
  unfold tbs
  rw [List.length_append, le_length, Array.length_toList]
  rfl

structure Rec where
  ty : Nat
  dev : Nat
  kind : Nat
  vers : Nat
  path : Nat
  mode : Nat
  atime : Nat
  mtime : Nat
  len : Nat
  name : ByteArray
  uid : ByteArray
  gid : ByteArray
  muid : ByteArray
structure Rec.Ok (s : Rec) : Prop where
  ty : s.ty ≤ 65535
  dev : s.dev ≤ 4294967295
  kind : s.kind ≤ 255
  vers : s.vers ≤ 4294967295
  path : s.path ≤ 18446744073709551615
  mode : s.mode ≤ 4294967295
  atime : s.atime ≤ 4294967295
  mtime : s.mtime ≤ 4294967295
  len : s.len ≤ 18446744073709551615
  name : s.name.size ≤ 140737488355328
  uid : s.uid.size ≤ 140737488355328
  gid : s.gid.size ≤ 140737488355328
  muid : s.muid.size ≤ 140737488355328
def Rec.size (s : Rec) : Nat := 49 + s.name.size + s.uid.size + s.gid.size + s.muid.size
def Rec.err (s : Rec) : Nat :=
  if terr s.name ≠ 0 then terr s.name else if terr s.uid ≠ 0 then terr s.uid else if terr s.gid ≠ 0 then terr s.gid else if terr s.muid ≠ 0 then terr s.muid else if 65535 < s.size - 2 then 13 else 0
def Rec.nums (s : Rec) : List UInt8 := le 2 s.ty ++ (le 4 s.dev ++ (le 1 s.kind ++ (le 4 s.vers ++ (le 8 s.path ++ (le 4 s.mode ++ (le 4 s.atime ++ (le 4 s.mtime ++ le 8 s.len)))))))
def Rec.body (s : Rec) : List UInt8 := s.nums ++ (tbs s.name ++ (tbs s.uid ++ (tbs s.gid ++ tbs s.muid)))
def Rec.enc (s : Rec) : List UInt8 := le 2 (s.size - 2) ++ s.body
theorem Rec.nums_length (s : Rec) : s.nums.length = 39 := by unfold Rec.nums; simp [le_length]
theorem Rec.body_length (s : Rec) : s.body.length = s.size - 2 := by
  unfold Rec.body Rec.size
  simp only [List.length_append, s.nums_length, tbs_length]
  omega
theorem Rec.enc_length (s : Rec) : s.enc.length = s.size := by
  unfold Rec.enc
  rw [List.length_append, le_length, s.body_length]
  unfold Rec.size
  omega
theorem Rec.err_zero {s : Rec} (h : s.err = 0) : terr s.name = 0 ∧ terr s.uid = 0 ∧ terr s.gid = 0 ∧ terr s.muid = 0 ∧ s.size ≤ 65537 := by
  unfold Rec.err at h
  split at h
  · contradiction
  · split at h
    · contradiction
    · split at h
      · contradiction
      · split at h
        · contradiction
        · split at h
          · contradiction
          · exact ⟨by omega, by omega, by omega, by omega, by omega⟩

/-! ### What a writer has of it -/
structure Goes (a b : WS) : Prop where
  ok : b.Ok
  fit : b.Fit
theorem Goes.refl {a : WS} (h : a.Ok) (f : a.Fit) : Goes a a := ⟨h, f⟩
theorem Goes.fail {a : WS} (h : a.Ok) (f : a.Fit) (n : Nat) : Goes a (a.fail n) := ⟨h.fail n, f⟩
theorem Goes.room {a : WS} (h : a.Ok) (f : a.Fit) (n : Nat) : Goes a (a.room n) := by
  unfold WS.room
  split
  · exact Goes.fail h f 11
  · exact Goes.refl h f
theorem Goes.raw {a : WS} (h : a.Ok) (f : a.Fit) (b : List UInt8) : Goes a (a.raw b) := by
  refine ⟨h.raw b, ?_⟩
  unfold WS.raw
  split
  · rename_i k
    obtain ⟨e, -, -⟩ := WS.room_ok k
    rw [e]
    intro q hq
    have := f q hq
    simp
    omega
  · exact (Goes.room h f _).fit
theorem Goes.text {a : WS} (h : a.Ok) (f : a.Fit) (s : ByteArray) : Goes a (a.text s) := by
  unfold WS.text
  repeat' split
  · exact Goes.refl h f
  · exact Goes.fail h f 13
  · exact Goes.fail h f 12
  · exact Goes.raw h f _
theorem Goes.opened {a : WS} (h : a.Ok) (f : a.Fit) : Goes a a.opened := by
  unfold WS.opened
  split
  · rename_i k
    obtain ⟨e, h1, h2⟩ := WS.room_ok k
    have h3 := h.os
    refine ⟨⟨h.lim, by simp; omega, by simp; omega⟩, ?_⟩
    intro q hq
    simp only [List.mem_append, List.mem_singleton] at hq
    simp only [List.length_append, List.length_cons, List.length_nil]
    rcases hq with hq | rfl
    · have := f q hq; omega
    · omega
  · exact Goes.room h f 2
theorem Goes.shut {a : WS} (h : a.Ok) (f : a.Fit) (x : Int) : Goes a (a.shut x) := by
  unfold WS.shut
  split
  · exact Goes.refl h f
  · rename_i he
    split
    · exact Goes.fail h f 1
    · rename_i q hq
      split
      · exact Goes.fail h f 1
      · split
        · exact Goes.fail h f 13
        · have h3 := h.os
          refine ⟨⟨h.lim, by simpa using h.bs, by simp; omega⟩, ?_⟩
          intro r hr
          have := f r (List.dropLast_subset _ hr)
          simpa using this

def WS.qid (st : WS) (k v p : Nat) : WS := ((st.raw (le 1 k)).raw (le 4 v)).raw (le 8 p)
def WS.nums (st : WS) (s : Rec) : WS := ((((((st.raw (le 2 s.ty)).raw (le 4 s.dev)).qid s.kind s.vers s.path).raw (le 4 s.mode)).raw (le 4 s.atime)).raw (le 4 s.mtime)).raw (le 8 s.len)
def WS.texts (st : WS) (s : Rec) : WS := (((st.text s.name).text s.uid).text s.gid).text s.muid
def WS.put (st : WS) (s : Rec) : WS := ((st.opened.nums s).texts s).shut st.place

theorem WS.raw_add (l : Nat) (bs b : List UInt8) (os : List Nat) (h : b.length + bs.length ≤ l) : (⟨l, bs, os, 0⟩ : WS).raw b = ⟨l, bs ++ b, os, 0⟩ := by
  have e : (⟨l, bs, os, 0⟩ : WS).room b.length = ⟨l, bs, os, 0⟩ := by
    unfold WS.room
    rw [if_neg (by show ¬ l < b.length + bs.length; omega)]
  rw [WS.raw_good (by rw [e])]
theorem WS.text_add (l : Nat) (bs : List UInt8) (os : List Nat) (t : ByteArray) (h0 : terr t = 0) (h : 2 + t.size + bs.length ≤ l) : (⟨l, bs, os, 0⟩ : WS).text t = ⟨l, bs ++ tbs t, os, 0⟩ := by
  obtain ⟨h1, h2⟩ := terr_zero h0
  unfold WS.text
  rw [if_neg (by simp), if_neg (by omega), if_neg (by simp [h2])]
  exact WS.raw_add l bs (tbs t) os (by rw [tbs_length]; exact h)
theorem WS.text_bad (l : Nat) (bs : List UInt8) (os : List Nat) (t : ByteArray) (h0 : terr t ≠ 0) : (⟨l, bs, os, 0⟩ : WS).text t = ⟨l, bs, os, terr t⟩ := by
  unfold WS.text
  rw [if_neg (by simp)]
  unfold terr at h0 ⊢
  by_cases h1 : 65535 < t.size
  · rw [if_pos h1, if_pos h1]; rfl
  · rw [if_neg h1] at h0 ⊢
    rw [if_neg h1]
    by_cases h2 : Utf.good t = false
    · rw [if_pos h2, if_pos h2]; rfl
    · rw [if_neg h2] at h0
      exact absurd rfl h0
theorem WS.text_stays {st : WS} (h : st.err ≠ 0) (t : ByteArray) : st.text t = st := by unfold WS.text; rw [if_pos h]
theorem WS.shut_stays {st : WS} (h : st.err ≠ 0) (x : Int) : st.shut x = st := by unfold WS.shut; rw [if_pos h]

def w0 : WS := ⟨16777216, [], [], 0⟩
theorem w0_ok : w0.Ok := ⟨by decide, by decide, by decide⟩
theorem w0_fit : w0.Fit := fun q hq => by simp [w0] at hq
theorem w0_opened : w0.opened = ⟨16777216, [0, 0], [0], 0⟩ := by kernel_rfl
theorem w0_place : w0.place = 0 := by kernel_rfl
theorem WS.nums_add (bs : List UInt8) (os : List Nat) (s : Rec) (h : bs.length ≤ 16777000) : (⟨16777216, bs, os, 0⟩ : WS).nums s = ⟨16777216, bs ++ s.nums, os, 0⟩ := by
  unfold WS.nums WS.qid Rec.nums
  rw [WS.raw_add _ _ _ _ (by (try simp only [List.length_append]); simp only [le_length]; omega), WS.raw_add _ _ _ _ (by simp only [List.length_append, le_length]; omega), WS.raw_add _ _ _ _ (by simp only [List.length_append, le_length]; omega),
    WS.raw_add _ _ _ _ (by simp only [List.length_append, le_length]; omega), WS.raw_add _ _ _ _ (by simp only [List.length_append, le_length]; omega), WS.raw_add _ _ _ _ (by simp only [List.length_append, le_length]; omega),
    WS.raw_add _ _ _ _ (by simp only [List.length_append, le_length]; omega), WS.raw_add _ _ _ _ (by simp only [List.length_append, le_length]; omega), WS.raw_add _ _ _ _ (by simp only [List.length_append, le_length]; omega)]
  simp only [List.append_assoc]
/-- What a new writer has of a record. -/
theorem Rec.written (s : Rec) : (w0.put s).toldB = (if s.err = 0 then s.enc else []) ∧ (w0.put s).toldE = s.err := by
  unfold WS.put
  rw [w0_opened, w0_place, WS.nums_add _ _ _ (by simp)]
  have hn := s.nums_length
  obtain ⟨N, hN⟩ : ∃ N, N = [0, 0] ++ s.nums := ⟨_, rfl⟩
  have hNl : N.length = 41 := by rw [hN, List.length_append, hn]; rfl
  rw [← hN]
  have bad : ∀ (bs : List UInt8) (os : List Nat) (e : Nat), e ≠ 0 → s.err = e → ((⟨16777216, bs, os, e⟩ : WS).shut 0).toldB = (if s.err = 0 then s.enc else []) ∧ ((⟨16777216, bs, os, e⟩ : WS).shut 0).toldE = s.err := by
    intro bs os e he h
    rw [WS.shut_stays he, h, if_neg he]
    unfold WS.toldB WS.toldE
    rw [if_neg (fun k => he k.1), if_pos he]
    exact ⟨rfl, rfl⟩
  unfold WS.texts
  by_cases h1 : terr s.name = 0
  case neg =>
    have k := fun t => WS.text_stays (st := ⟨16777216, N, [0], terr s.name⟩) h1 t
    rw [WS.text_bad _ _ _ _ h1, k, k, k]
    exact bad _ _ _ h1 (by unfold Rec.err; rw [if_pos h1])
  have z1 := (terr_zero h1).1
  rw [WS.text_add _ _ _ _ h1 (by omega)]
  by_cases h2 : terr s.uid = 0
  case neg =>
    have k := fun t => WS.text_stays (st := ⟨16777216, N ++ tbs s.name, [0], terr s.uid⟩) h2 t
    rw [WS.text_bad _ _ _ _ h2, k, k]
    exact bad _ _ _ h2 (by unfold Rec.err; rw [if_neg (by omega), if_pos h2])
  have z2 := (terr_zero h2).1
  rw [WS.text_add _ _ _ _ h2 (by simp only [List.length_append, tbs_length]; omega)]
  by_cases h3 : terr s.gid = 0
  case neg =>
    rw [WS.text_bad _ _ _ _ h3, WS.text_stays h3]
    exact bad _ _ _ h3 (by unfold Rec.err; rw [if_neg (by omega), if_neg (by omega), if_pos h3])
  have z3 := (terr_zero h3).1
  rw [WS.text_add _ _ _ _ h3 (by simp only [List.length_append, tbs_length]; omega)]
  by_cases h4 : terr s.muid = 0
  case neg =>
    rw [WS.text_bad _ _ _ _ h4]
    exact bad _ _ _ h4 (by unfold Rec.err; rw [if_neg (by omega), if_neg (by omega), if_neg (by omega), if_pos h4])
  have z4 := (terr_zero h4).1
  rw [WS.text_add _ _ _ _ h4 (by simp only [List.length_append, tbs_length]; omega)]
  have e : N ++ tbs s.name ++ tbs s.uid ++ tbs s.gid ++ tbs s.muid = 0 :: 0 :: s.body := by
    rw [hN]
    unfold Rec.body
    simp
  rw [e]
  have hbl := s.body_length
  have hsz : s.size = 49 + s.name.size + s.uid.size + s.gid.size + s.muid.size := rfl
  have hl : (0 :: 0 :: s.body).length - 0 - 2 = s.size - 2 := by simp [hbl]
  by_cases h5 : 65535 < s.size - 2
  · have e2 : (⟨16777216, 0 :: 0 :: s.body, [0], 0⟩ : WS).shut 0 = ⟨16777216, 0 :: 0 :: s.body, [0], 13⟩ := by
      unfold WS.shut
      rw [if_neg (by simp)]
      show (if ((0 : Nat) : Int) ≠ 0 then _ else if 65535 < (0 :: 0 :: s.body).length - 0 - 2 then _ else _) = _
      rw [if_neg (by simp), hl, if_pos h5]
      rfl
    have e3 : s.err = 13 := by unfold Rec.err; rw [if_neg (by omega), if_neg (by omega), if_neg (by omega), if_neg (by omega), if_pos h5]
    have := bad (0 :: 0 :: s.body) [0] 13 (by decide) e3
    rw [WS.shut_stays (by simp)] at this
    have e2' : (⟨16777216, 0 :: 0 :: s.body, [0], 0⟩ : WS).shut ((0 : Nat) : Int) = ⟨16777216, 0 :: 0 :: s.body, [0], 13⟩ := e2
    rw [e2']
    exact this
  · have e2 : (⟨16777216, 0 :: 0 :: s.body, [0], 0⟩ : WS).shut ((0 : Nat) : Int) = ⟨16777216, s.enc, [], 0⟩ := by
      unfold WS.shut
      rw [if_neg (by simp)]
      show (if ((0 : Nat) : Int) ≠ ((0 : Nat) : Int) then _ else if 65535 < (0 :: 0 :: s.body).length - 0 - 2 then _ else _) = _
      rw [if_neg (by simp), hl, if_neg h5]
      simp [Rec.enc, le, List.range_succ, hbl]
    have e3 : s.err = 0 := by unfold Rec.err; rw [if_neg (by omega), if_neg (by omega), if_neg (by omega), if_neg (by omega), if_neg h5]
    rw [e2, e3]
    exact ⟨by simp [WS.toldB], by simp [WS.toldE]⟩

/-! ### What a reader gets of it -/
theorem le_front (k n : Nat) : le (k + 1) n = UInt8.ofNat n :: le k (n / 256) := by
  unfold le
  rw [List.range_succ_eq_map, List.map_cons, List.map_map]
  simp only [Nat.pow_zero, Nat.div_one]
  congr 1
  apply List.map_congr_left
  intro i _
  simp only [Function.comp]
  rw [Nat.pow_succ', Nat.div_div_eq_div_mul]
theorem leval_le (k : Nat) : ∀ n, n < 256 ^ k → leval (le k n) = n := by
  induction k with
  | zero => intro n h; simp at h; subst h; rfl
  | succ k ih =>
    intro n h
    rw [le_front]
    simp only [leval]
    rw [ih (n / 256) (by rw [Nat.pow_succ'] at h; exact Nat.div_lt_of_lt_mul h)]
    have : (UInt8.ofNat n).toNat = n % 256 := by simp
    omega
theorem RS.next_add (a rest : List UInt8) (p b n : Nat) (hn : a.length = n) : (⟨a ++ rest, p, 0, b⟩ : RS).next n = ⟨rest, p + n, 0, b⟩ ∧ (⟨a ++ rest, p, 0, b⟩ : RS).got n = a := by
  unfold RS.next RS.got
  have h1 : ¬ (a ++ rest).length < n := by rw [List.length_append]; omega
  subst hn
  simp only [ne_eq, not_true_eq_false, if_false, h1]
  exact ⟨by simp, by simp⟩
theorem str_bytes (t : ByteArray) : str t.data.toList = t := by cases t; simp [str]
theorem RS.count_add (a rest : List UInt8) (p b n : Nat) (hn : a.length = n) (hn2 : n ≤ 65535) :
    (⟨le 2 n ++ (a ++ rest), p, 0, b⟩ : RS).counted = ⟨le 2 n ++ (a ++ rest), p, 0, b⟩ ∧ (⟨le 2 n ++ (a ++ rest), p, 0, b⟩ : RS).piece = a := by
  obtain ⟨h1, h2⟩ := RS.next_add (le 2 n) (a ++ rest) p b 2 (le_length 2 n)
  obtain ⟨h3, h4⟩ := RS.next_add a rest (p + 2) b n hn
  have hc : (⟨le 2 n ++ (a ++ rest), p, 0, b⟩ : RS).cnt = n := by unfold RS.cnt; rw [h2]; exact leval_le 2 n (by omega)
  have hp : (⟨le 2 n ++ (a ++ rest), p, 0, b⟩ : RS).peek = ⟨rest, p + 2 + n, 0, b⟩ := by unfold RS.peek; rw [hc, h1, h3]
  refine ⟨?_, ?_⟩
  · unfold RS.counted
    rw [hp]
    rfl
  · unfold RS.piece
    rw [hc, h1, h4]
theorem RS.text_add (t : ByteArray) (rest : List UInt8) (p b : Nat) (h0 : terr t = 0) :
    (⟨tbs t ++ rest, p, 0, b⟩ : RS).text = ⟨rest, p + (2 + t.size), 0, b⟩ ∧ (⟨tbs t ++ rest, p, 0, b⟩ : RS).said = t := by
  obtain ⟨z1, z2⟩ := terr_zero h0
  have ht : t.data.toList.length = t.size := Array.length_toList
  obtain ⟨h1, h2⟩ := RS.count_add t.data.toList rest p b t.size ht z1
  have e : tbs t ++ rest = le 2 t.size ++ (t.data.toList ++ rest) := by unfold tbs; simp
  rw [e]
  unfold RS.text RS.said
  rw [h1, h2, str_bytes, ht]
  simp only [z2]
  refine ⟨?_, by simp⟩
  have := (RS.next_add (tbs t) rest p b (2 + t.size) (tbs_length t)).1
  rw [e] at this
  simp [this]
theorem RS.part_add (a rest : List UInt8) (p b n : Nat) (hn : a.length = n) (hn2 : n ≤ 65535) :
    (⟨le 2 n ++ (a ++ rest), p, 0, b⟩ : RS).past = ⟨rest, p + (2 + n), 0, b⟩ ∧ (⟨le 2 n ++ (a ++ rest), p, 0, b⟩ : RS).part = ⟨a, p + 2, 0, 0⟩ := by
  obtain ⟨h1, h2⟩ := RS.count_add a rest p b n hn hn2
  have h3 := (RS.next_add (le 2 n ++ a) rest p b (2 + n) (by rw [List.length_append, le_length, hn])).1
  have e : le 2 n ++ a ++ rest = le 2 n ++ (a ++ rest) := by simp
  rw [e] at h3
  have hpast : (⟨le 2 n ++ (a ++ rest), p, 0, b⟩ : RS).past = ⟨rest, p + (2 + n), 0, b⟩ := by
    unfold RS.past
    rw [h1, h2, hn]
    simp [h3]
  refine ⟨hpast, ?_⟩
  unfold RS.part
  rw [hpast, h1, h2, hn]
  simp
  omega

def RS.qid (p : RS) : RS := ((p.next 1).next 4).next 8
/-- What is told of what was read: noughts, where the reader is wrong then. -/
def RS.tell (p : RS) (n : Nat) : Nat := if p.err = 0 then n else 0
def RS.n1 (p : RS) : RS := p.next 2
def RS.n2 (p : RS) : RS := p.n1.next 4
def RS.n3 (p : RS) : RS := p.n2.qid
def RS.n4 (p : RS) : RS := p.n3.next 4
def RS.n5 (p : RS) : RS := p.n4.next 4
def RS.n6 (p : RS) : RS := p.n5.next 4
def RS.n7 (p : RS) : RS := p.n6.next 8
def RS.t1 (p : RS) : RS := p.n7.text
def RS.t2 (p : RS) : RS := p.t1.text
def RS.t3 (p : RS) : RS := p.t2.text
def RS.t4 (p : RS) : RS := p.t3.text
/-- The fields as they are read, one behind the other. -/
def RS.fields (p : RS) : Rec :=
  ⟨leval (p.got 2), leval (p.n1.got 4), p.n3.tell (leval (p.n2.got 1)), p.n3.tell (leval ((p.n2.next 1).got 4)), p.n3.tell (leval (((p.n2.next 1).next 4).got 8)), leval (p.n3.got 4), leval (p.n4.got 4), leval (p.n5.got 4), leval (p.n6.got 8), p.n7.said, p.t1.said, p.t2.said, p.t3.said⟩
def Rec.none : Rec := ⟨0, 0, 0, 0, 0, 0, 0, 0, 0, ⟨#[]⟩, ⟨#[]⟩, ⟨#[]⟩, ⟨#[]⟩⟩
def RS.took (st : RS) : RS := st.past.fail (Rdr.RS.end st.part.t4).err
def RS.rec' (st : RS) : Rec := if st.took.err = 0 then st.part.fields else Rec.none
/-- What Decode tells. -/
def dec (bs : List UInt8) : Option Rec := if (Rdr.RS.end (⟨bs, 0, 0, 0⟩ : RS).took).err = 0 then some (⟨bs, 0, 0, 0⟩ : RS).rec' else none

theorem Rec.fields_of (s : Rec) (p : Nat) (ok : s.Ok) (h : s.err = 0) : (⟨s.body, p, 0, 0⟩ : RS).t4 = ⟨[], p + (s.size - 2), 0, 0⟩ ∧ (⟨s.body, p, 0, 0⟩ : RS).fields = s := by
  obtain ⟨e1, e2, e3, e4, -⟩ := Rec.err_zero h
  obtain ⟨ty, dev, kind, vers, path, mode, atime, mtime, len, name, uid, gid, muid⟩ := s
  obtain ⟨o1, o2, o3, o4, o5, o6, o7, o8, o9, -, -, -, -⟩ := ok
  simp only at o1 o2 o3 o4 o5 o6 o7 o8 o9 e1 e2 e3 e4
  have hb : (Rec.mk ty dev kind vers path mode atime mtime len name uid gid muid).body = le 2 ty ++ (le 4 dev ++ (le 1 kind ++ (le 4 vers ++ (le 8 path ++ (le 4 mode ++ (le 4 atime ++ (le 4 mtime ++ (le 8 len ++ (tbs name ++ (tbs uid ++ (tbs gid ++ (tbs muid ++ [])))))))))))) := by
    unfold Rec.body Rec.nums
    simp
  obtain ⟨T4, hT4⟩ : ∃ l, l = tbs muid ++ ([] : List UInt8) := ⟨_, rfl⟩
  obtain ⟨T3, hT3⟩ : ∃ l, l = tbs gid ++ T4 := ⟨_, rfl⟩
  obtain ⟨T2, hT2⟩ : ∃ l, l = tbs uid ++ T3 := ⟨_, rfl⟩
  obtain ⟨T1, hT1⟩ : ∃ l, l = tbs name ++ T2 := ⟨_, rfl⟩
  obtain ⟨L7, hL7⟩ : ∃ l, l = le 8 len ++ T1 := ⟨_, rfl⟩
  obtain ⟨L6, hL6⟩ : ∃ l, l = le 4 mtime ++ L7 := ⟨_, rfl⟩
  obtain ⟨L5, hL5⟩ : ∃ l, l = le 4 atime ++ L6 := ⟨_, rfl⟩
  obtain ⟨L4, hL4⟩ : ∃ l, l = le 4 mode ++ L5 := ⟨_, rfl⟩
  obtain ⟨Q3, hQ3⟩ : ∃ l, l = le 8 path ++ L4 := ⟨_, rfl⟩
  obtain ⟨Q2, hQ2⟩ : ∃ l, l = le 4 vers ++ Q3 := ⟨_, rfl⟩
  obtain ⟨Q1, hQ1⟩ : ∃ l, l = le 1 kind ++ Q2 := ⟨_, rfl⟩
  obtain ⟨L2, hL2⟩ : ∃ l, l = le 4 dev ++ Q1 := ⟨_, rfl⟩
  obtain ⟨L1, hL1⟩ : ∃ l, l = le 2 ty ++ L2 := ⟨_, rfl⟩
  rw [hb, ← hT4, ← hT3, ← hT2, ← hT1, ← hL7, ← hL6, ← hL5, ← hL4, ← hQ3, ← hQ2, ← hQ1, ← hL2, ← hL1]
  obtain ⟨a1, b1⟩ := RS.next_add (le 2 ty) L2 p 0 2 (le_length _ _)
  rw [← hL1] at a1 b1
  obtain ⟨a2, b2⟩ := RS.next_add (le 4 dev) Q1 (p + 2) 0 4 (le_length _ _)
  rw [← hL2] at a2 b2
  obtain ⟨a3, b3⟩ := RS.next_add (le 1 kind) Q2 (p + 2 + 4) 0 1 (le_length _ _)
  rw [← hQ1] at a3 b3
  obtain ⟨a4, b4⟩ := RS.next_add (le 4 vers) Q3 (p + 2 + 4 + 1) 0 4 (le_length _ _)
  rw [← hQ2] at a4 b4
  obtain ⟨a5, b5⟩ := RS.next_add (le 8 path) L4 (p + 2 + 4 + 1 + 4) 0 8 (le_length _ _)
  rw [← hQ3] at a5 b5
  obtain ⟨a6, b6⟩ := RS.next_add (le 4 mode) L5 (p + 2 + 4 + 1 + 4 + 8) 0 4 (le_length _ _)
  rw [← hL4] at a6 b6
  obtain ⟨a7, b7⟩ := RS.next_add (le 4 atime) L6 (p + 2 + 4 + 1 + 4 + 8 + 4) 0 4 (le_length _ _)
  rw [← hL5] at a7 b7
  obtain ⟨a8, b8⟩ := RS.next_add (le 4 mtime) L7 (p + 2 + 4 + 1 + 4 + 8 + 4 + 4) 0 4 (le_length _ _)
  rw [← hL6] at a8 b8
  obtain ⟨a9, b9⟩ := RS.next_add (le 8 len) T1 (p + 2 + 4 + 1 + 4 + 8 + 4 + 4 + 4) 0 8 (le_length _ _)
  rw [← hL7] at a9 b9
  obtain ⟨c1, d1⟩ := RS.text_add name T2 (p + 2 + 4 + 1 + 4 + 8 + 4 + 4 + 4 + 8) 0 e1
  rw [← hT1] at c1 d1
  obtain ⟨c2, d2⟩ := RS.text_add uid T3 (p + 2 + 4 + 1 + 4 + 8 + 4 + 4 + 4 + 8 + (2 + name.size)) 0 e2
  rw [← hT2] at c2 d2
  obtain ⟨c3, d3⟩ := RS.text_add gid T4 (p + 2 + 4 + 1 + 4 + 8 + 4 + 4 + 4 + 8 + (2 + name.size) + (2 + uid.size)) 0 e3
  rw [← hT3] at c3 d3
  obtain ⟨c4, d4⟩ := RS.text_add muid [] (p + 2 + 4 + 1 + 4 + 8 + 4 + 4 + 4 + 8 + (2 + name.size) + (2 + uid.size) + (2 + gid.size)) 0 e4
  rw [← hT4] at c4 d4
  refine ⟨?_, ?_⟩
  · unfold RS.t4 RS.t3 RS.t2 RS.t1 RS.n7 RS.n6 RS.n5 RS.n4 RS.n3 RS.n2 RS.n1 RS.qid
    rw [a1, a2, a3, a4, a5, a6, a7, a8, a9, c1, c2, c3, c4]
    simp only [Rec.size, RS.mk.injEq, true_and, and_true]
    omega
  · unfold RS.fields RS.tell RS.t3 RS.t2 RS.t1 RS.n7 RS.n6 RS.n5 RS.n4 RS.n3 RS.n2 RS.n1 RS.qid
    rw [a1, a2, a3, a4, a5, a6, a7, a8, a9, c1, c2, c3, b1, b2, b3, b4, b5, b6, b7, b8, b9, d1, d2, d3, d4]
    rw [leval_le 2 ty (by omega), leval_le 4 dev (by omega), leval_le 1 kind (by omega), leval_le 4 vers (by omega), leval_le 8 path (by omega), leval_le 4 mode (by omega), leval_le 4 atime (by omega), leval_le 4 mtime (by omega), leval_le 8 len (by omega)]
    simp

theorem Rec.took_of (s : Rec) (rest : List UInt8) (p b : Nat) (ok : s.Ok) (h : s.err = 0) : (⟨s.enc ++ rest, p, 0, b⟩ : RS).took = ⟨rest, p + s.size, 0, b⟩ ∧ (⟨s.enc ++ rest, p, 0, b⟩ : RS).rec' = s := by
  have hz := (Rec.err_zero h).2.2.2.2
  have hs2 : 49 ≤ s.size := by unfold Rec.size; omega
  have e : s.enc ++ rest = le 2 (s.size - 2) ++ (s.body ++ rest) := by unfold Rec.enc; simp
  obtain ⟨h1, h2⟩ := RS.part_add s.body rest p b (s.size - 2) s.body_length (by omega)
  obtain ⟨f1, f2⟩ := Rec.fields_of s (p + 2) ok h
  have ht : (⟨s.enc ++ rest, p, 0, b⟩ : RS).took = ⟨rest, p + s.size, 0, b⟩ := by
    unfold RS.took
    rw [e, h1, h2, f1]
    have : (Rdr.RS.end (⟨[], p + 2 + (s.size - 2), 0, 0⟩ : RS)).err = 0 := rfl
    rw [this]
    have e2 : (⟨rest, p + (2 + (s.size - 2)), 0, b⟩ : RS).fail 0 = ⟨rest, p + (2 + (s.size - 2)), 0, b⟩ := rfl
    rw [e2]
    have : p + (2 + (s.size - 2)) = p + s.size := by omega
    rw [this]
  refine ⟨ht, ?_⟩
  unfold RS.rec'
  rw [ht, e, h2, f2]
  rfl
theorem dec_enc (s : Rec) (ok : s.Ok) (h : s.err = 0) : dec s.enc = some s := by
  obtain ⟨h1, h2⟩ := Rec.took_of s [] 0 0 ok h
  rw [List.append_nil] at h1 h2
  unfold dec
  rw [h1, h2]
  rfl
theorem dec_more (s : Rec) (x : UInt8) (ok : s.Ok) (h : s.err = 0) : dec (s.enc ++ [x]) = none := by
  obtain ⟨h1, -⟩ := Rec.took_of s [x] 0 0 ok h
  unfold dec
  rw [h1]
  rfl
theorem RS.failAt_stays {st : RS} (h : st.err ≠ 0) (e : Int) (p : Nat) : st.failAt e p = st := by unfold RS.failAt; rw [if_neg (fun k => h k.1)]
theorem RS.end_stays {st : RS} (h : st.err ≠ 0) : (Rdr.RS.end st).err ≠ 0 := by
  unfold Rdr.RS.end
  split
  · unfold RS.fail; rw [RS.failAt_stays h]; exact h
  · exact h
theorem dec_less (s : Rec) (ok : s.Ok) (h : s.err = 0) : dec s.enc.dropLast = none := by
  have hz := (Rec.err_zero h).2.2.2.2
  have hs2 : 49 ≤ s.size := by unfold Rec.size; omega
  have hbl := s.body_length
  have e : s.enc.dropLast = le 2 (s.size - 2) ++ (s.body.dropLast ++ []) := by
    unfold Rec.enc
    rw [List.dropLast_append_of_ne_nil (by intro k; rw [k] at hbl; simp at hbl; omega)]
    simp
  have hc : (⟨s.enc.dropLast, 0, 0, 0⟩ : RS).counted.err ≠ 0 := by
    rw [e]
    obtain ⟨h1, h2⟩ := RS.next_add (le 2 (s.size - 2)) (s.body.dropLast ++ []) 0 0 2 (le_length _ _)
    have hcnt : (⟨le 2 (s.size - 2) ++ (s.body.dropLast ++ []), 0, 0, 0⟩ : RS).cnt = s.size - 2 := by unfold RS.cnt; rw [h2]; exact leval_le 2 _ (by omega)
    have hp : (⟨le 2 (s.size - 2) ++ (s.body.dropLast ++ []), 0, 0, 0⟩ : RS).peek.err = 10 := by
      unfold RS.peek
      rw [hcnt, h1]
      unfold RS.next
      rw [if_pos (by simp [hbl]; omega)]
      rfl
    unfold RS.counted
    rw [hp]
    simp [RS.fail, RS.failAt]
  have ht : (⟨s.enc.dropLast, 0, 0, 0⟩ : RS).took.err ≠ 0 := by
    unfold RS.took RS.past
    rw [if_pos hc]
    unfold RS.fail
    rw [RS.failAt_stays hc]
    exact hc
  unfold dec
  rw [if_neg (RS.end_stays ht)]
end Go.Proofs.Ytdbhdajedgkpbaa
