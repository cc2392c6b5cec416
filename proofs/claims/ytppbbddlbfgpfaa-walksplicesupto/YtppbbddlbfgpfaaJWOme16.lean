/- The program's tree: add; create, mkdir, symlink; there, unlink, rmdir. -/
import Derived.Test.YtppbbddlbfgpfaaJWOme15
namespace Go.Proofs.Ytppbbddlbfgpfaa
section
open Go.RowKit
attribute [local go_sem high] eqK' neqK' eqE neqE eqN neqN guardK guardE guardN

/-- what a mutation answers: its error, and the entries that are to be put -/
def MutR (w w' : World) (e : Ending) (E : Int) (L : List En) : Prop := ∃ v, e = .returned (.tuple #[v, .int .i64 E]) ∧ Row7 w' w.heap.size v (if E = 0 then L else []) ∧ Below w.heap.size w w'
theorem MutR.no {w w' : World} {e : Ending} {E : Int} {L : List En} (hE : E ≠ 0) (he : e = .returned (.tuple #[.slice none 0 0, .int .i64 E])) (hb : Below w.heap.size w w') : MutR w w' e E L :=
  ⟨_, he, by rw [if_neg hE]; exact World.ownsRow_nil _ _ _ _, hb⟩
theorem row_one (W : World) (x : En) (base : Nat) (h : base ≤ W.heap.size) : Row7 (W.alloc (.cells x.vals.toArray 42)) base (.slice (some ⟨W.heap.size, 0, none⟩) 1 1) [x] := by
  have : ec [x] = x.vals := by unfold ec; simp
  unfold Row7
  rw [this]
  exact owns_whole h (heap_new _ _) rfl (by decide)
theorem MutR.one {w W : World} {e : Ending} {x : En} (he : e = .returned (.tuple #[.slice (some ⟨W.heap.size, 0, none⟩) 1 1, .int .i64 0])) (hb : Below w.heap.size w W) : MutR w (W.alloc (.cells x.vals.toArray 42)) e 0 [x] :=
  ⟨_, he, by rw [if_pos rfl]; exact row_one W x _ hb.size, chainB hb (below_alloc _ _)⟩
theorem MutR.le {w0 w w' : World} {e : Ending} {E : Int} {L : List En} (h : MutR w w' e E L) (hb : Below w0.heap.size w0 w) : MutR w0 w' e E L := by
  obtain ⟨v, h1, h2, h3⟩ := h
  exact ⟨v, h1, owns_le h2 hb.size, chainB hb h3⟩

def addE (M : Nms) (es : List En) (d : Int) (nm : ByteArray) (kind mode : Int) (tg : ByteArray) : Int :=
  if namedE M es d nm ≠ 0 then namedE M es d nm else if rightE M kind mode tg ≠ 0 then rightE M kind mode tg else madeE es d nm
/-- Look, by its two answers -/
theorem Look_q (M : Nms) (hM : NmsP M) (t : Nat) (s : Tr) (d : Int) (nm : ByteArray) : ∃ (e : En) (E : Int), E = namedE M s.es d nm ∧ (E = 0 → e = nowE s.es d nm) ∧ Hid (∀ w, IsP w t s → Calls Try.prog 11 #[.pointer (some ⟨t, 0, none⟩), .int .i64 d, .string nm] w fun x w' => x = .returned (.tuple #[.agg #[.int .i64 e.d, .string e.nm, .bool e.neg, .int .i64 e.id, .int .i64 e.kind, .int .i64 e.mode, .string e.tg], .int .i64 E]) ∧ Below w.heap.size w w') := by
  refine ⟨if namedE M s.es d nm = 0 then nowE s.es d nm else zeroEn, _, rfl, fun h => by rw [if_pos h], fun w hw => ?_⟩
  have := Look_p M hM t s d nm w hw
  rw [lookV_form] at this
  exact this

set_option maxHeartbeats 8000000 in
theorem add_p (M : Nms) (hM : NmsP M) (t : Nat) (s : Tr) (o : Opn) (id kind mode : Int) (tg : ByteArray) (w : World) (h : IsP w t s) (hneg : ∀ e ∈ s.es, e.neg = false) (hnx : s.next ≠ 9223372036854775807) :
    Calls Try.prog 78 #[.pointer (some ⟨t, 0, none⟩), .agg o.arr, .agg #[.int .i64 id, .int .i64 kind, .int .i64 mode, .string tg]] w fun e w' => MutR w w' e (addE M s.es o.dir o.nm kind mode tg) [⟨o.dir, o.nm, false, s.next, kind, mode, tg⟩] := by
  obtain ⟨e, E, hE, hnow, HL⟩ := Look_q M hM t s o.dir o.nm
  obtain ⟨R, hR⟩ : ∃ x, rightE M kind mode tg = x := ⟨_, rfl⟩
  have HRt : Hid (∀ id w, Calls Try.prog 91 #[.agg #[.int .i64 id, .int .i64 kind, .int .i64 mode, .string tg]] w fun e w' => e = .returned (.int .i64 R) ∧ Below w.heap.size w w') := fun id w => by rw [← hR]; exact right_p M hM id kind mode tg w
  have H : Hid (IsP w t s) := h
  obtain ⟨A, hA⟩ : ∃ x, addE M s.es o.dir o.nm kind mode tg = x := ⟨_, rfl⟩
  have HA : Hid (A = if E ≠ 0 then E else if R ≠ 0 then R else madeE s.es o.dir o.nm) := by show _ = _; rw [← hA]; unfold addE; rw [← hE, hR]
  rw [hA]
  have HN : Hid ((E = 0 → e = nowE s.es o.dir o.nm) ∧ ∀ e ∈ s.es, e.neg = false) := ⟨hnow, hneg⟩
  have HCt : Hid (∀ w, IsP w t s → Calls Try.prog 92 #[.pointer (some ⟨t, 0, none⟩)] w fun e w' => e = .returned (.int .i64 ((s.es.length : Int) + 1)) ∧ w' = w) := fun w h => count_p t s w h
  obtain ⟨-, -, c2, -⟩ := h.cells
  have hlt := h.tt.lt
  obtain ⟨n, hn⟩ : ∃ n, s.es.length = n := ⟨_, rfl⟩
  obtain ⟨NX, hNX⟩ : ∃ n, s.next = n := ⟨_, rfl⟩
  rw [hn] at HCt
  rw [hNX] at c2 hnx ⊢
  have hlim := h.lim
  rw [hn] at hlim
  have Hn : Hid (s.es.length = n) := hn
  clear hM hE hR hA hnow hneg h hn hNX
  obtain ⟨ok, od, onm, odst, onew, omode, otg⟩ := o
  simp only [Opn.arr] at *
  go_enter Try.func78, Try.ntmps78
  go_upto_region 1 with fail
  obtain ⟨W, hW⟩ : ∃ W, (w.alloc (.cells #[.int .i64 ok, .int .i64 od, .string onm, .int .i64 odst, .string onew, .int .i64 omode, .string otg] 65)).alloc (.cells #[.int .i64 id, .int .i64 kind, .int .i64 mode, .string tg] 31) = W := ⟨_, rfl⟩
  rw [hW]
  obtain ⟨m0, m1, hbW, hzW⟩ := boxes2 hW
  have q1 := cell_of m0 1
  have q2 := cell_of m0 2
  simp at q1 q2
  have HW : Hid (W.heap[w.heap.size + 1]? = some (.cells #[.int .i64 id, .int .i64 kind, .int .i64 mode, .string tg] 31 (0, 0)) ∧ W.heap.size = w.heap.size + 1 + 1 ∧ Below w.heap.size w W) := ⟨m1, hzW, hbW⟩
  clear hW m0 m1 hzW
  by_cases hE0 : E = 0
  · subst hE0
    go_upto_region 4 with (go_at_call 11; refine (HL.out _ (H.out.below HW.out.2.2)).mono ?_; rintro x w1 ⟨rfl, hb1⟩)
    obtain ⟨W2, hW2⟩ : ∃ W2, w1.alloc (.cells #[.int .i64 e.d, .string e.nm, .bool e.neg, .int .i64 e.id, .int .i64 e.kind, .int .i64 e.mode, .string e.tg] 42) = W2 := ⟨_, rfl⟩
    have hbx : W2.heap[w1.heap.size]? = some (.cells e.vals.toArray 42 (0, 0)) := by rw [← hW2]; exact heap_new _ _
    have hb2 : Below W.heap.size W W2 := by rw [← hW2]; exact chainB hb1 (below_alloc _ _)
    rw [hW2]
    have hnd := hkeep HW.out.1 hb2
    have n0 := cell_of hnd 0
    have n1 := cell_of hnd 1
    have n2 := cell_of hnd 2
    have n3 := cell_of hnd 3
    simp at n0 n1 n2 n3
    have H2 : Hid (W2.heap[w1.heap.size]? = some (.cells e.vals.toArray 42 (0, 0)) ∧ Below w.heap.size w W2 ∧ W2.heap[w.heap.size + 1]? = some (.cells #[.int .i64 id, .int .i64 kind, .int .i64 mode, .string tg] 31 (0, 0)) ∧ w.heap.size + 1 < w1.heap.size) := ⟨hbx, chainB HW.out.2.2 hb2, hnd, by have := hb1.size; have := HW.out.2.1; omega⟩
    clear hW2 hbx hb2 hnd q1 q2 hb1
    by_cases hR0 : R = 0
    · subst hR0
      -- what the name is, and the room
      cases hq : atE s.es od onm with
      | some f =>
        have hef : e = f := by rw [HN.out.1 (by simp), nowE_at, hq]
        have hen : e.neg = false := by rw [hef]; exact HN.out.2 f (atE_key hq).1
        have HA2 : Hid (A = 41) := by show _ = _; rw [HA.out]; unfold madeE; rw [hq]; simp
        clear hq hef
        go_wp2_with (go_at_call 91; refine (HRt.out _ _).mono ?_; rintro x w3 ⟨rfl, hb3⟩; have b2 := (cells7_of (hkeep H2.out.1 hb3)).c2; simp only [Nat.zero_add] at b2; rw [hen] at b2)
        go_ret2
        exact MutR.no (by rw [HA2.out]; decide) (by rw [HA2.out]; rfl) (chainB H2.out.2.1 hb3)
      | none =>
        have hef : e = goneEn od onm := by rw [HN.out.1 (by simp), nowE_at, hq]; rfl
        subst hef
        have HA2 : Hid (A = if 47 ≤ n then 47 else 0) := by show _ = _; rw [HA.out]; unfold madeE; rw [hq, Hn.out]; simp
        clear hq
        by_cases hf : 47 ≤ n
        · have hfi : (48 : Int) ≤ (n : Int) + 1 := by omega
          have HA3 : Hid (A = 47) := by show _ = _; rw [HA2.out, if_pos hf]
          go_wp2_with (first
            | (go_at_call 91; refine (HRt.out _ _).mono ?_; rintro x w3 ⟨rfl, hb3⟩; have b2 : w3.cell? ⟨w1.heap.size, 2, none⟩ = some (.bool true) := (cells7_of (hkeep H2.out.1 hb3)).c2)
            | (go_at_call 92; refine (HCt.out _ (H.out.below (chainB H2.out.2.1 hb3))).mono ?_; rintro x w4 ⟨rfl, rfl⟩))
          go_ret2
          exact MutR.no (by rw [HA3.out]; decide) (by rw [HA3.out]; rfl) (chainB H2.out.2.1 hb3)
        · have hfi : ¬ (48 : Int) ≤ (n : Int) + 1 := by omega
          have HA3 : Hid (A = 0) := by show _ = _; rw [HA2.out, if_neg hf]
          have hnxb : (NX == 9223372036854775807) = false := by simpa using hnx
          go_upto_region 13 with (first
            | (go_at_call 91; refine (HRt.out _ _).mono ?_; rintro x w3 ⟨rfl, hb3⟩; have hbb := cells7_of (hkeep H2.out.1 hb3); have b2 : w3.cell? ⟨w1.heap.size, 2, none⟩ = some (.bool true) := hbb.c2; have b0 : w3.cell? ⟨w1.heap.size, 0, none⟩ = some (.int .i64 od) := hbb.c0; have b1 : w3.cell? ⟨w1.heap.size, 1, none⟩ = some (.string onm) := hbb.c1; have c2' := ((chainB H2.out.2.1 hb3).cell (p := ⟨t, 2, none⟩) hlt).trans c2; clear hbb)
            | (go_at_call 92; refine (HCt.out _ (H.out.below (chainB H2.out.2.1 hb3))).mono ?_; rintro x w4 ⟨rfl, rfl⟩))
          have hnd := hkeep H2.out.2.2.1 hb3
          have hndf := free_of hnd
          have p0 := cell_of hnd 0
          have p1 := cell_of hnd 1
          have p2 := cell_of hnd 2
          have p3 := cell_of hnd 3
          simp at p0 p1 p2 p3
          have hne1 : w1.heap.size ≠ w.heap.size + 1 := by have := H2.out.2.2.2; omega
          have HB3 : Hid (Below w.heap.size w (w4.setCell ⟨w.heap.size + 1, 0, none⟩ (.int .i64 NX))) := (only1 w4 (w.heap.size + 1) 0 _).below (chainB H2.out.2.1 hb3) (chainB H2.out.2.1 hb3).size (fun k hk => by omega)
          clear hnd b2 n0 n1 n2 n3
          go_wp2
          go_ret2
          rw [HA3.out]
          have hz : (w4.setCell ⟨w.heap.size + 1, 0, none⟩ (.int .i64 NX)).heap.size = w4.heap.size := by simp [World.setCell]
          exact MutR.one (x := ⟨od, onm, false, NX, kind, mode, tg⟩) (by rw [hz]; rfl) HB3.out
    · have hRb : (R != 0) = true := by simpa using hR0
      have HA2 : Hid (A = R ∧ R ≠ 0) := ⟨by rw [HA.out]; simp [hR0], hR0⟩
      clear hR0
      go_wp2_with (go_at_call 91; refine (HRt.out _ _).mono ?_; rintro x w3 ⟨rfl, hb3⟩)
      go_ret2
      exact MutR.no (by rw [HA2.out.1]; exact HA2.out.2) (by rw [HA2.out.1]; rfl) (chainB H2.out.2.1 hb3)
  · have hEb : (E != 0) = true := by simpa using hE0
    have HA2 : Hid (A = E ∧ E ≠ 0) := ⟨by rw [HA.out]; simp [hE0], hE0⟩
    clear hE0
    go_wp2_with (go_at_call 11; refine (HL.out _ (H.out.below HW.out.2.2)).mono ?_; rintro x w1 ⟨rfl, hb1⟩)
    go_ret2
    exact MutR.no (by rw [HA2.out.1]; exact HA2.out.2) (by rw [HA2.out.1]; rfl) (chainB (chainB HW.out.2.2 hb1) (below_alloc _ _))

theorem addE_does {M : Nms} {s : Tr} {o : Opn} (kind mode : Int) (tg : ByteArray) (hk : (o.kind = 5 ∧ kind = 2 ∨ o.kind = 6 ∧ kind = 1) ∧ mode = o.mode ∧ tg = ⟨#[]⟩ ∨ o.kind = 7 ∧ kind = 3 ∧ mode = 0 ∧ tg = o.tg) : addE M s.es o.dir o.nm kind mode tg = doesE M s o ∧ [⟨o.dir, o.nm, false, s.next, kind, mode, tg⟩] = tellL s o := by
  unfold addE doesE tellL rightE
  rcases hk with ⟨⟨h1, rfl⟩ | ⟨h1, rfl⟩, rfl, rfl⟩ | ⟨h1, rfl, rfl, rfl⟩
  · refine ⟨?_, by simp [h1]⟩
    by_cases hn : namedE M s.es o.dir o.nm = 0
    · cases badM o.mode <;> simp [h1, hn, ByteArray.toList_eq]
    · simp [h1, hn]
  · refine ⟨?_, by simp [h1]⟩
    by_cases hn : namedE M s.es o.dir o.nm = 0
    · cases badM o.mode <;> simp [h1, hn, ByteArray.toList_eq]
    · simp [h1, hn]
  · refine ⟨?_, by simp [h1]⟩
    have hb : badM 0 = false := rfl
    by_cases hn : namedE M s.es o.dir o.nm = 0
    · simp [h1, hn, hb]
    · simp [h1, hn]
set_option maxHeartbeats 4000000 in
theorem create_p (M : Nms) (hM : NmsP M) (t : Nat) (s : Tr) (o : Opn) (w : World) (h : IsP w t s) (hneg : ∀ e ∈ s.es, e.neg = false) (hnx : s.next ≠ 9223372036854775807) (hk : o.kind = 5) :
    Calls Try.prog 57 #[.pointer (some ⟨t, 0, none⟩), .agg o.arr] w fun e w' => MutR w w' e (doesE M s o) (tellL s o) := by
  obtain ⟨h1, h2⟩ := addE_does (M := M) (s := s) (o := o) 2 o.mode ⟨#[]⟩ (.inl ⟨.inl ⟨hk, rfl⟩, rfl, rfl⟩)
  have HA : Hid (∀ w, IsP w t s → Calls Try.prog 78 #[.pointer (some ⟨t, 0, none⟩), .agg o.arr, .agg #[.int .i64 0, .int .i64 2, .int .i64 o.mode, .string ⟨#[]⟩]] w fun e w' => MutR w w' e (doesE M s o) (tellL s o)) := fun w hw => by rw [← h1, ← h2]; exact add_p M hM t s o 0 2 o.mode ⟨#[]⟩ w hw hneg hnx
  have H : Hid (IsP w t s) := h
  obtain ⟨E, hE⟩ : ∃ x, doesE M s o = x := ⟨_, rfl⟩
  obtain ⟨L, hL⟩ : ∃ x, tellL s o = x := ⟨_, rfl⟩
  rw [hE, hL] at HA ⊢
  clear h1 h2 h hneg hnx hM hE hL hk
  obtain ⟨ok, od, onm, odst, onew, omode, otg⟩ := o
  simp only [Opn.arr] at *
  go_enter Try.func57, Try.ntmps57
  go_wp2_with (go_at_call 78; refine (HA.out _ (H.out.below (below_alloc _ _))).mono ?_; intro x w1 hx; have hx' := hx.le (below_alloc _ _); obtain ⟨v, rfl, hy⟩ := hx'; clear hx)
  go_ret2
  exact ⟨v, rfl, hy⟩
set_option maxHeartbeats 4000000 in
theorem mkdir_p (M : Nms) (hM : NmsP M) (t : Nat) (s : Tr) (o : Opn) (w : World) (h : IsP w t s) (hneg : ∀ e ∈ s.es, e.neg = false) (hnx : s.next ≠ 9223372036854775807) (hk : o.kind = 6) :
    Calls Try.prog 58 #[.pointer (some ⟨t, 0, none⟩), .agg o.arr] w fun e w' => MutR w w' e (doesE M s o) (tellL s o) := by
  obtain ⟨h1, h2⟩ := addE_does (M := M) (s := s) (o := o) 1 o.mode ⟨#[]⟩ (.inl ⟨.inr ⟨hk, rfl⟩, rfl, rfl⟩)
  have HA : Hid (∀ w, IsP w t s → Calls Try.prog 78 #[.pointer (some ⟨t, 0, none⟩), .agg o.arr, .agg #[.int .i64 0, .int .i64 1, .int .i64 o.mode, .string ⟨#[]⟩]] w fun e w' => MutR w w' e (doesE M s o) (tellL s o)) := fun w hw => by rw [← h1, ← h2]; exact add_p M hM t s o 0 1 o.mode ⟨#[]⟩ w hw hneg hnx
  have H : Hid (IsP w t s) := h
  obtain ⟨E, hE⟩ : ∃ x, doesE M s o = x := ⟨_, rfl⟩
  obtain ⟨L, hL⟩ : ∃ x, tellL s o = x := ⟨_, rfl⟩
  rw [hE, hL] at HA ⊢
  clear h1 h2 h hneg hnx hM hE hL hk
  obtain ⟨ok, od, onm, odst, onew, omode, otg⟩ := o
  simp only [Opn.arr] at *
  go_enter Try.func58, Try.ntmps58
  go_wp2_with (go_at_call 78; refine (HA.out _ (H.out.below (below_alloc _ _))).mono ?_; intro x w1 hx; have hx' := hx.le (below_alloc _ _); obtain ⟨v, rfl, hy⟩ := hx'; clear hx)
  go_ret2
  exact ⟨v, rfl, hy⟩
set_option maxHeartbeats 4000000 in
theorem symlink_p (M : Nms) (hM : NmsP M) (t : Nat) (s : Tr) (o : Opn) (w : World) (h : IsP w t s) (hneg : ∀ e ∈ s.es, e.neg = false) (hnx : s.next ≠ 9223372036854775807) (hk : o.kind = 7) :
    Calls Try.prog 59 #[.pointer (some ⟨t, 0, none⟩), .agg o.arr] w fun e w' => MutR w w' e (doesE M s o) (tellL s o) := by
  obtain ⟨h1, h2⟩ := addE_does (M := M) (s := s) (o := o) 3 0 o.tg (.inr ⟨hk, rfl, rfl, rfl⟩)
  have HA : Hid (∀ w, IsP w t s → Calls Try.prog 78 #[.pointer (some ⟨t, 0, none⟩), .agg o.arr, .agg #[.int .i64 0, .int .i64 3, .int .i64 0, .string o.tg]] w fun e w' => MutR w w' e (doesE M s o) (tellL s o)) := fun w hw => by rw [← h1, ← h2]; exact add_p M hM t s o 0 3 0 o.tg w hw hneg hnx
  have H : Hid (IsP w t s) := h
  obtain ⟨E, hE⟩ : ∃ x, doesE M s o = x := ⟨_, rfl⟩
  obtain ⟨L, hL⟩ : ∃ x, tellL s o = x := ⟨_, rfl⟩
  rw [hE, hL] at HA ⊢
  clear h1 h2 h hneg hnx hM hE hL hk
  obtain ⟨ok, od, onm, odst, onew, omode, otg⟩ := o
  simp only [Opn.arr] at *
  go_enter Try.func59, Try.ntmps59
  go_wp2_with (go_at_call 78; refine (HA.out _ (H.out.below (below_alloc _ _))).mono ?_; intro x w1 hx; have hx' := hx.le (below_alloc _ _); obtain ⟨v, rfl, hy⟩ := hx'; clear hx)
  go_ret2
  exact ⟨v, rfl, hy⟩
end
section
open Go.RowKit
attribute [local go_sem high] eqK' neqK' eqE neqE eqN neqN guardK guardE guardN

def thereE (M : Nms) (es : List En) (d : Int) (nm : ByteArray) : Int := if namedE M es d nm ≠ 0 then namedE M es d nm else if (atE es d nm).isSome then 0 else 40
set_option maxHeartbeats 4000000 in
theorem there_q (M : Nms) (hM : NmsP M) (t : Nat) (s : Tr) (o : Opn) (hneg : ∀ e ∈ s.es, e.neg = false) : ∃ (e : En) (E : Int), E = thereE M s.es o.dir o.nm ∧ (E = 0 → atE s.es o.dir o.nm = some e) ∧ Hid (∀ w, IsP w t s → Calls Try.prog 79 #[.pointer (some ⟨t, 0, none⟩), .agg o.arr] w fun x w' => x = .returned (.tuple #[.agg #[.int .i64 e.d, .string e.nm, .bool e.neg, .int .i64 e.id, .int .i64 e.kind, .int .i64 e.mode, .string e.tg], .int .i64 E]) ∧ Below w.heap.size w w') := by
  obtain ⟨e, E, hE, hnow, HL⟩ := Look_q M hM t s o.dir o.nm
  obtain ⟨T, hT⟩ : ∃ x, thereE M s.es o.dir o.nm = x := ⟨_, rfl⟩
  have HT : Hid (T = if E ≠ 0 then E else if e.neg then 40 else 0) := by
    show _ = _
    rw [← hT]
    unfold thereE
    rw [← hE]
    by_cases hz : E = 0
    · simp only [hz, ne_eq, not_true_eq_false, if_false]
      rw [hnow hz, nowE_at]
      cases hq : atE s.es o.dir o.nm with
      | none => rfl
      | some f => rw [hneg f (atE_key hq).1]; rfl
    · simp [hz]
  refine ⟨e, T, hT.symm, fun hz => ?_, fun w hw => ?_⟩
  · rw [← hT] at hz
    unfold thereE at hz
    rw [← hE] at hz
    by_cases hz' : E = 0
    · simp only [hz', ne_eq, not_true_eq_false, if_false] at hz
      rw [hnow hz', nowE_at]
      cases hq : atE s.es o.dir o.nm with
      | none => rw [hq] at hz; simp at hz
      | some f => rfl
    · simp [hz'] at hz
  · have H : Hid (IsP w t s) := hw
    clear hw hM hE hnow hT hneg
    obtain ⟨ok, od, onm, odst, onew, omode, otg⟩ := o
    simp only [Opn.arr] at *
    go_enter Try.func79, Try.ntmps79
    go_upto_region 1 with fail
    obtain ⟨W, hW⟩ : ∃ W, (w.alloc (.cells #[.int .i64 ok, .int .i64 od, .string onm, .int .i64 odst, .string onew, .int .i64 omode, .string otg] 65)).alloc (.cells #[.int .i64 0, .string ⟨#[]⟩, .bool false, .int .i64 0, .int .i64 0, .int .i64 0, .string ⟨#[]⟩] 42) = W := ⟨_, rfl⟩
    rw [hW]
    obtain ⟨m0, m1, hbW, hzW⟩ := boxes2 hW
    have q1 := cell_of m0 1
    have q2 := cell_of m0 2
    simp at q1 q2
    have HW : Hid (W.heap[w.heap.size + 1]? = some (.cells zeroEn.vals.toArray 42 (0, 0)) ∧ W.heap.size = w.heap.size + 1 + 1 ∧ Below w.heap.size w W) := ⟨m1, hzW, hbW⟩
    clear hW m0 m1 hzW
    have hfin : ∀ (w1 : World) (T : Int), Below W.heap.size W w1 → (put7 w1 (w.heap.size + 1) e).heap[w.heap.size + 1]? = some (.cells e.vals.toArray 42 (0, 0)) ∧ Below w.heap.size w (put7 w1 (w.heap.size + 1) e) := fun w1 T hb => ⟨put7_heap e (hkeep HW.out.1 hb), (put7_only _ _ _).below (chainB HW.out.2.2 hb) (chainB HW.out.2.2 hb).size (fun k hk => by omega)⟩
    have HFin : Hid (∀ (w1 : World), Below W.heap.size W w1 → (put7 w1 (w.heap.size + 1) e).heap[w.heap.size + 1]? = some (.cells e.vals.toArray 42 (0, 0)) ∧ Below w.heap.size w (put7 w1 (w.heap.size + 1) e)) := fun w1 hb => hfin w1 0 hb
    clear hfin
    by_cases hz : E = 0
    · subst hz
      cases hn : e.neg with
      | true =>
        have HT2 : Hid (T = 40) := by show _ = _; rw [HT.out]; simp [hn]
        go_wp2_with (go_at_call 11; refine (HL.out _ (H.out.below HW.out.2.2)).mono ?_; rintro x w1 ⟨rfl, hb1⟩; have hz := cells7_of (hkeep HW.out.1 hb1); have zf := free_of (hkeep HW.out.1 hb1); have z0 := hz.c0; have z1 := hz.c1; have z2 := hz.c2; have z3 := hz.c3; have z4 := hz.c4; have z5 := hz.c5; have z6 := hz.c6; simp only [Nat.zero_add] at z1 z2 z3 z4 z5 z6; have hlw : w.heap.size + 1 < w1.heap.size := (by have := hb1.size; have := HW.out.2.1; omega); have HP : Hid _ := HFin.out w1 hb1; clear hz)
        rw [← hn]
        refine bodyPost_ret (ret_entry2 (e := e) rfl _ _ _ rfl (hkeep HP.out.1 (below_alloc _ _))) rfl ?_
        exact ⟨by rw [HT2.out]; rfl, chainB HP.out.2 (below_alloc _ _)⟩
      | false =>
        have HT2 : Hid (T = 0) := by show _ = _; rw [HT.out]; simp [hn]
        go_wp2_with (go_at_call 11; refine (HL.out _ (H.out.below HW.out.2.2)).mono ?_; rintro x w1 ⟨rfl, hb1⟩; have hz := cells7_of (hkeep HW.out.1 hb1); have zf := free_of (hkeep HW.out.1 hb1); have z0 := hz.c0; have z1 := hz.c1; have z2 := hz.c2; have z3 := hz.c3; have z4 := hz.c4; have z5 := hz.c5; have z6 := hz.c6; simp only [Nat.zero_add] at z1 z2 z3 z4 z5 z6; have hlw : w.heap.size + 1 < w1.heap.size := (by have := hb1.size; have := HW.out.2.1; omega); have HP : Hid _ := HFin.out w1 hb1; clear hz)
        rw [← hn]
        refine bodyPost_ret (ret_entry2 (e := e) rfl _ _ _ rfl (hkeep HP.out.1 (below_alloc _ _))) rfl ?_
        exact ⟨by rw [HT2.out]; rfl, chainB HP.out.2 (below_alloc _ _)⟩
    · have hzb : (E == 0) = false := by simpa using hz
      have HT2 : Hid (T = E) := by show _ = _; rw [HT.out]; simp [hz]
      clear hz
      go_wp2_with (go_at_call 11; refine (HL.out _ (H.out.below HW.out.2.2)).mono ?_; rintro x w1 ⟨rfl, hb1⟩; have hz := cells7_of (hkeep HW.out.1 hb1); have zf := free_of (hkeep HW.out.1 hb1); have z0 := hz.c0; have z1 := hz.c1; have z2 := hz.c2; have z3 := hz.c3; have z4 := hz.c4; have z5 := hz.c5; have z6 := hz.c6; simp only [Nat.zero_add] at z1 z2 z3 z4 z5 z6; have hlw : w.heap.size + 1 < w1.heap.size := (by have := hb1.size; have := HW.out.2.1; omega); have HP : Hid _ := HFin.out w1 hb1; clear hz)
      refine bodyPost_ret (ret_entry2 (e := e) rfl _ _ _ rfl (hkeep HP.out.1 (below_alloc _ _))) rfl ?_
      exact ⟨by rw [HT2.out]; rfl, chainB HP.out.2 (below_alloc _ _)⟩
end
end Go.Proofs.Ytppbbddlbfgpfaa
