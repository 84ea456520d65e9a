/- What the law's works does: it is true. -/
import Derived.Test.YtihkldcdikbinaaWks
import Derived.Laws.IdiomStrings
namespace Go.Proofs.Ytihkldcdikbinaa
set_option linter.unusedVariables false
open Go.RowKit
namespace Nd
open Go.Proofs.Ytihkldcdikbinaa.Utf Go.Proofs.Ytihkldcdikbinaa.Txt Go.PlainAid Go.Proofs.Ytihkldcdikbinaa.Mpf

theorem Mp.empty {k : TypeId} {K : Type} (M : MapK Try.prog k K) {w : World} {m : Nat} (h : w.heap[m]? = some (.map #[] 0)) : Mp M w m 0 (fun _ => none) :=
  ⟨#[], 0, h, rfl, ⟨fun e he => (by simp at he), fun x v h => (by cases h), by simp⟩⟩
theorem conv_bl {w : World} {B g cap : Nat} {l : List UInt8} {n : Nat} (hn : n = l.length) (h : w.ownsRow B 5 1 (.slice (some ⟨g, 0, none⟩) n cap) n (bl l)) : (convert 53 9 (.slice (some ⟨g, 0, none⟩) n cap)).run Try.prog w = .ok (.string ⟨l.toArray⟩) w := by
  subst hn
  exact run_convert_bytes_back w 53 9 5 ⟨g, 0, none⟩ cap l Try.underlying53 Try.underlying5 Try.underlying9 (fun j hj => by
      have hadd : (⟨g, 0, none⟩ : Addr).add j = ⟨g, j, none⟩ := by unfold Addr.add; split <;> simp_all
      rw [hadd, World.ownsRow.cellAt h j (by omega)]
      unfold bl
      rw [List.getElem?_map, List.getElem?_eq_getElem hj]
      rfl)
def nA : ByteArray := ⟨#[97]⟩
def nB : ByteArray := ⟨#[98]⟩
def nC : ByteArray := ⟨#[99]⟩
def o1 : OpV := makOp 1 nA 2147484096
def o2 : OpV := makOp 2 nB 384
def o4 : OpV := makOp 2 nC 384
theorem ok1 : newOk o1.is = true := by decide +kernel
theorem ok2 : newOk o2.is = true := by decide +kernel
theorem ok4 : newOk o4.is = true := by decide +kernel
theorem ch1 : Nm.chk o1.is.name = true := by decide +kernel
theorem ch2 : Nm.chk o2.is.name = true := by decide +kernel
theorem ch4 : Nm.chk o4.is.name = true := by decide +kernel
theorem dirR : isDirM 2147484141 = true := by decide +kernel
theorem dirA : isDirM 2147484096 = true := by decide +kernel
theorem dirB : isDirM 384 = false := by decide +kernel
def six : List UInt8 := [1, 2, 3, 4, 5, 6]
def seven : List UInt8 := [1, 2, 3, 4, 5, 6, 7]
def oB (n : Nat) (l : Nat) : OpV := ⟨6, 3, ⟨#[]⟩, 0, zeroIs, 0, 250, .slice (some ⟨n, 0, none⟩) l l, 0⟩
def X6 : List UInt8 := over8 z256 250 six
def g6 : Nat → Option (List UInt8) := fun i => if i = 0 then some X6 else none
theorem g6_len : ∀ i l, g6 i = some l → l.length = 256 := by
  intro i l h
  unfold g6 at h
  split at h
  · cases h; decide +kernel
  · cases h
theorem told4 : bytesAt g6 248 4 = [0, 0, 1, 2] := by decide +kernel

/-- After the store is made. -/
structure S1 (w W : World) (p bn bc : Nat) (ps : Value) (b m : Nat) : Prop where
  st : StAt W p 0 3 2 bn ps bc
  row : W.ownsRow 0 30 1 ps 1 [.int .u64 1]
  mn : Mp nK W bn 1 (upd (fun _ => none) 1 (some (ptr b)))
  mc : Mp pK W bc 0 (fun _ => none)
  nd : NdAt W b ⟨1, 1, ⟨#[47]⟩, 2147484141, ann, staff, ann, 0, 0, 0, 0, 0⟩ 0 (.slice none 0 0) m
  lp : w.heap.size ≤ p
  lbn : w.heap.size ≤ bn
  lbc : w.heap.size ≤ bc
  lb : w.heap.size ≤ b
  lm : w.heap.size ≤ m
  nbc : bc ≠ bn
  lps : ∀ q, ps.ownBlock = some q → w.heap.size ≤ q
  k : Kept [] w W
theorem S1.kept {w W W' : World} {p bn bc : Nat} {ps : Value} {b m : Nat} (h : S1 w W p bn bc ps b m) (k : Kept [] W W') : S1 w W' p bn bc ps b m :=
  ⟨h.st.kept k (by simp), row_kept h.row k (fun _ _ h => by simp at h), h.mn.kept k (by simp), h.mc.kept k (by simp), h.nd.kept k (by simp), h.lp, h.lbn, h.lbc, h.lb, h.lm, h.nbc, h.lps, h.k.trans k (fun i hi => by cases hi)⟩
def f2 (b b2 : Nat) : Nat → Option Value := upd (upd (fun _ => none) 1 (some (ptr b))) 2 (some (ptr b2))
def c2 : Nat × ByteArray → Option Value := upd (fun _ => none) (1, nA) (some (.int .u64 (2 : Nat)))
/-- After the first node. -/
structure S2 (w W : World) (p bn bc : Nat) (ps : Value) (b b2 m2 : Nat) : Prop where
  st : StAt W p 0 3 3 bn ps bc
  row : W.ownsRow 0 30 1 ps 2 [.int .u64 1, .int .u64 (2 : Nat)]
  mn : Mp nK W bn 2 (f2 b b2)
  mc : Mp pK W bc 1 c2
  nd : NdAt W b2 { newIs o1 with path := 2 } 0 (.slice none 0 0) m2
  lp : w.heap.size ≤ p
  lbn : w.heap.size ≤ bn
  lbc : w.heap.size ≤ bc
  lb2 : w.heap.size ≤ b2
  nbc : bc ≠ bn
  lps : ∀ q, ps.ownBlock = some q → w.heap.size ≤ q
  k : Kept [] w W
theorem S2.kept {w W W' : World} {p bn bc : Nat} {ps : Value} {b b2 m2 : Nat} (h : S2 w W p bn bc ps b b2 m2) (k : Kept [] W W') : S2 w W' p bn bc ps b b2 m2 :=
  ⟨h.st.kept k (by simp), row_kept h.row k (fun _ _ h => by simp at h), h.mn.kept k (by simp), h.mc.kept k (by simp), h.nd.kept k (by simp), h.lp, h.lbn, h.lbc, h.lb2, h.nbc, h.lps, h.k.trans k (fun i hi => by cases hi)⟩
def f3 (b b2 b3 : Nat) : Nat → Option Value := upd (f2 b b2) 3 (some (ptr b3))
def c3 : Nat × ByteArray → Option Value := upd c2 (2, nB) (some (.int .u64 (3 : Nat)))
/-- After the second node. -/
structure S3 (w W : World) (p bn bc : Nat) (ps : Value) (b b2 m2 b3 m3 : Nat) (ks : Value) (d3 : Is) (nn : Nat) (gg : Nat → Option (List UInt8)) : Prop where
  st : StAt W p 0 3 4 bn ps bc
  mn : Mp nK W bn 3 (f3 b b2 b3)
  mc : Mp pK W bc 2 c3
  nd : NdAt W b2 { newIs o1 with path := 2 } 0 ks m2
  n3 : NdAt W b3 d3 0 (.slice none 0 0) m3
  data : Mp nK W m3 nn (fun i => (gg i).map blkV)
  lb3 : w.heap.size ≤ b3
  lm3 : w.heap.size ≤ m3
  nmb : m3 ≠ bn
  k : Kept [] w W
theorem S3.kept {w W W' : World} {p bn bc : Nat} {ps : Value} {b b2 m2 b3 m3 : Nat} {ks : Value} {d3 : Is} {nn : Nat} {gg : Nat → Option (List UInt8)} (h : S3 w W p bn bc ps b b2 m2 b3 m3 ks d3 nn gg) (k : Kept [] W W') : S3 w W' p bn bc ps b b2 m2 b3 m3 ks d3 nn gg :=
  ⟨h.st.kept k (by simp), h.mn.kept k (by simp), h.mc.kept k (by simp), h.nd.kept k (by simp), h.n3.kept k (by simp), h.data.kept k (by simp), h.lb3, h.lm3, h.nmb, h.k.trans k (fun i hi => by cases hi)⟩
/-- What lies behind is kept where only new blocks turned. -/
theorem Kept.newer {w W W' : World} {L : List Nat} (h : Kept [] w W) (k : Kept L W W') (hL : ∀ i ∈ L, w.heap.size ≤ i) : Kept [] w W' := h.trans k (fun i hi => Or.inr (hL i hi))

theorem first {w W W' : World} {p bn bc : Nat} {ps : Value} {b m : Nat} (h : S1 w W p bn bc ps b m) {ps' : Value} {b' m' g cap : Nat}
    (E : MakeEnd W W' p 0 3 2 bn bc ps 0 (fun _ => none) 1 (upd (fun _ => none) 1 (some (ptr b))) b ⟨1, 1, ⟨#[47]⟩, 2147484141, ann, staff, ann, 0, 0, 0, 0, 0⟩ 0 (.slice none 0 0) m o1 1 [.int .u64 1] 0 [] ps' b' m' g cap) : S2 w W' p bn bc ps' b b' m' where
  st := E.st
  row := E.row
  mn := E.mn
  mc := E.mc
  nd := E.node
  lp := h.lp
  lbn := h.lbn
  lbc := h.lbc
  lb2 := Nat.le_trans h.k.size E.lb'
  nbc := h.nbc
  lps q hq := by
    rcases E.lps with e | ⟨q', e, l⟩
    · rw [e] at hq; exact h.lps q hq
    · rw [e] at hq; cases hq; exact Nat.le_trans h.k.size l
  k := Kept.newer h.k E.kept (fun i hi => by
    have h1 := h.lp
    have h2 := h.lbn
    have h3 := h.lbc
    have h4 := h.lb
    simp only [List.mem_cons, List.mem_append, Option.mem_toList] at hi
    rcases hi with q | q | q | q | q | q
    · omega
    · omega
    · omega
    · omega
    · exact h.lps i q
    · simp [Value.ownBlock] at q)
theorem second {w W W' : World} {p bn bc : Nat} {ps : Value} {b b2 m2 : Nat} (h : S2 w W p bn bc ps b b2 m2) {ps' : Value} {b' m' g cap : Nat}
    (E : MakeEnd W W' p 0 3 3 bn bc ps 1 c2 2 (f2 b b2) b2 { newIs o1 with path := 2 } 0 (.slice none 0 0) m2 o2 2 [.int .u64 1, .int .u64 (2 : Nat)] 0 [] ps' b' m' g cap) :
    S3 w W' p bn bc ps' b b2 m2 b' m' (.slice (some ⟨g, 0, none⟩) 1 cap) { newIs o2 with path := 3 } 0 (fun _ => none) where
  st := E.st
  mn := E.mn
  mc := E.mc
  nd := E.dir
  n3 := E.node
  data := Mp.empty nK E.data
  lb3 := Nat.le_trans h.k.size E.lb'
  lm3 := Nat.le_trans h.k.size E.lm'
  nmb := fun e => by have := E.lm'; have := h.mn.lt; omega
  k := Kept.newer h.k E.kept (fun i hi => by
    have h1 := h.lp
    have h2 := h.lbn
    have h3 := h.lbc
    have h4 := h.lb2
    simp only [List.mem_cons, List.mem_append, Option.mem_toList] at hi
    rcases hi with q | q | q | q | q | q
    · omega
    · omega
    · omega
    · omega
    · exact h.lps i q
    · simp [Value.ownBlock] at q)
end Nd
end Go.Proofs.Ytihkldcdikbinaa
