/- The program's tree: permitted, right, add; create, mkdir, symlink. -/
import Derived.Test.YtppbbddlbfgpfaaJWUps14
namespace Go.Proofs.Ytppbbddlbfgpfaa
section
open Go.RowKit
attribute [local go_sem high] eqK' neqK' eqE neqE eqN neqN guardK guardE guardN

theorem permitted_p (m : Int) (w : World) : Calls Try.prog 82 #[.int .i64 m] w fun e w' => e = .returned (.bool (!badM m)) ∧ w' = w := by
  by_cases h1 : m < 0
  · have hb : badM m = true := by unfold badM; simp [h1]
    have h1' : ¬ (0 ≤ m) := by omega
    rw [hb]
    go_enter Try.func82, Try.ntmps82
    go_wp2
    go_ret
    exact ⟨rfl, rfl⟩
  · have h1' : 0 ≤ m := by omega
    by_cases h2 : 511 < m
    · have hb : badM m = true := by unfold badM; simp [h2]
      have h2' : ¬ (m ≤ 511) := by omega
      rw [hb]
      go_enter Try.func82, Try.ntmps82
      go_wp2
      go_ret
      exact ⟨rfl, rfl⟩
    · have hb : badM m = false := by unfold badM; simp; omega
      have h2' : m ≤ 511 := by omega
      rw [hb]
      go_enter Try.func82, Try.ntmps82
      go_wp2
      go_ret
      exact ⟨rfl, rfl⟩

def rightE (M : Nms) (kind mode : Int) (tg : ByteArray) : Int := if badM mode then 1 else if kind = 3 then M.tgt tg else if (kind = 1 ∨ kind = 2) ∧ tg.toList = [] then 0 else 1
set_option maxHeartbeats 4000000 in
theorem right_p (M : Nms) (hM : NmsP M) (id kind mode : Int) (tg : ByteArray) (w : World) : Calls Try.prog 91 #[.agg #[.int .i64 id, .int .i64 kind, .int .i64 mode, .string tg]] w fun e w' => e = .returned (.int .i64 (rightE M kind mode tg)) ∧ Below w.heap.size w w' := by
  have HM : Hid (NmsP M) := hM
  clear hM
  cases hb : badM mode with
  | true =>
    have hE : rightE M kind mode tg = 1 := by unfold rightE; rw [hb]; rfl
    rw [hE]
    have HP : Hid (∀ w, Calls Try.prog 82 #[.int .i64 mode] w fun e w' => e = .returned (.bool false) ∧ w' = w) := fun w => by have := permitted_p mode w; rw [hb] at this; exact this
    clear hE hb
    go_enter Try.func91, Try.ntmps91
    go_wp2_with (go_at_call 82; refine (HP.out _).mono ?_; rintro x w1 ⟨rfl, rfl⟩)
    go_ret
    exact ⟨rfl, below_alloc _ _⟩
  | false =>
    have HP : Hid (∀ w, Calls Try.prog 82 #[.int .i64 mode] w fun e w' => e = .returned (.bool true) ∧ w' = w) := fun w => by have := permitted_p mode w; rw [hb] at this; exact this
    by_cases h3 : kind = 3
    · subst h3
      have hE : rightE M 3 mode tg = M.tgt tg := by unfold rightE; rw [hb]; rfl
      rw [hE]
      clear hE hb
      go_enter Try.func91, Try.ntmps91
      go_wp2_with (first
        | (go_at_call 82; refine (HP.out _).mono ?_; rintro x w1 ⟨rfl, rfl⟩)
        | (go_at_call 20; refine (HM.out.target tg _).mono ?_; rintro x w2 ⟨v2, a2, b2, rfl, hb2⟩))
      all_goals
        go_ret
        exact ⟨rfl, chainB (below_alloc _ _) hb2⟩
    · have h3b : (kind == 3) = false := by simpa using h3
      by_cases h12 : (kind = 1 ∨ kind = 2) ∧ tg.toList = []
      · have hE : rightE M kind mode tg = 0 := by unfold rightE; rw [hb]; simp [h3, h12]
        rw [hE]
        obtain ⟨h12, htg⟩ := h12
        clear hE hb h3
        rcases h12 with rfl | rfl
        · go_enter Try.func91, Try.ntmps91
          go_wp2_with (go_at_call 82; refine (HP.out _).mono ?_; rintro x w1 ⟨rfl, rfl⟩)
          go_ret
          exact ⟨rfl, below_alloc _ _⟩
        · go_enter Try.func91, Try.ntmps91
          go_wp2_with (go_at_call 82; refine (HP.out _).mono ?_; rintro x w1 ⟨rfl, rfl⟩)
          go_ret
          exact ⟨rfl, below_alloc _ _⟩
      · have hE : rightE M kind mode tg = 1 := by unfold rightE; rw [hb]; simp only [Bool.false_eq_true, if_false]; rw [if_neg h3, if_neg h12]
        rw [hE]
        clear hE hb h3
        by_cases k1 : kind = 1
        · subst k1
          have htg : (tg.toList == []) = false := by
            simp only [true_or, true_and] at h12
            simpa using h12
          clear h12
          go_enter Try.func91, Try.ntmps91
          go_wp2_with (go_at_call 82; refine (HP.out _).mono ?_; rintro x w1 ⟨rfl, rfl⟩)
          go_ret
          exact ⟨rfl, below_alloc _ _⟩
        · by_cases k2 : kind = 2
          · subst k2
            have htg : (tg.toList == []) = false := by
              simp only [or_true, true_and] at h12
              simpa using h12
            clear h12
            go_enter Try.func91, Try.ntmps91
            go_wp2_with (go_at_call 82; refine (HP.out _).mono ?_; rintro x w1 ⟨rfl, rfl⟩)
            go_ret
            exact ⟨rfl, below_alloc _ _⟩
          · have k1b : (kind == 1) = false := by simpa using k1
            have k2b : (kind == 2) = false := by simpa using k2
            clear h12 k1 k2
            go_enter Try.func91, Try.ntmps91
            go_wp2_with (go_at_call 82; refine (HP.out _).mono ?_; rintro x w1 ⟨rfl, rfl⟩)
            go_ret
            exact ⟨rfl, below_alloc _ _⟩
end
section
open Go.RowKit
attribute [local go_sem high] eqK' neqK' eqE neqE eqN neqN guardK guardE guardN

/-- what a mutation answers: its error, and the entries that are to be put -/
def MutR (w w' : World) (e : Ending) (E : Int) (L : List En) : Prop := ∃ v, e = .returned (.tuple #[v, .int .i64 E]) ∧ Row7 w' w.heap.size v (if E = 0 then L else []) ∧ Below w.heap.size w w'
theorem MutR.no {w w' : World} {e : Ending} {E : Int} {L : List En} (hE : E ≠ 0) (he : e = .returned (.tuple #[.slice none 0 0, .int .i64 E])) (hb : Below w.heap.size w w') : MutR w w' e E L :=
  ⟨_, he, by rw [if_neg hE]; exact World.ownsRow_nil _ _ _ _, hb⟩
theorem row_one (W : World) (x : En) (base : Nat) (h : base ≤ W.heap.size) : Row7 (W.alloc (.cells x.vals.toArray 42)) base (.slice (some ⟨W.heap.size, 0, none⟩) 1 1) [x] := by
  have : ec [x] = x.vals := by unfold ec; simp
  unfold Row7
  rw [this]
  exact owns_whole h (heap_new _ _) rfl (by decide)
theorem MutR.one {w W : World} {e : Ending} {x : En} (he : e = .returned (.tuple #[.slice (some ⟨W.heap.size, 0, none⟩) 1 1, .int .i64 0])) (hb : Below w.heap.size w W) : MutR w (W.alloc (.cells x.vals.toArray 42)) e 0 [x] :=
  ⟨_, he, by rw [if_pos rfl]; exact row_one W x _ hb.size, chainB hb (below_alloc _ _)⟩
theorem MutR.le {w0 w w' : World} {e : Ending} {E : Int} {L : List En} (h : MutR w w' e E L) (hb : Below w0.heap.size w0 w) : MutR w0 w' e E L := by
  obtain ⟨v, h1, h2, h3⟩ := h
  exact ⟨v, h1, owns_le h2 hb.size, chainB hb h3⟩

def addE (M : Nms) (es : List En) (d : Int) (nm : ByteArray) (kind mode : Int) (tg : ByteArray) : Int :=
  if namedE M es d nm ≠ 0 then namedE M es d nm else if rightE M kind mode tg ≠ 0 then rightE M kind mode tg else madeE es d nm
/-- Look, by its two answers -/
theorem Look_q (M : Nms) (hM : NmsP M) (t : Nat) (s : Tr) (d : Int) (nm : ByteArray) : ∃ (e : En) (E : Int), E = namedE M s.es d nm ∧ (E = 0 → e = nowE s.es d nm) ∧ Hid (∀ w, IsP w t s → Calls Try.prog 11 #[.pointer (some ⟨t, 0, none⟩), .int .i64 d, .string nm] w fun x w' => x = .returned (.tuple #[.agg #[.int .i64 e.d, .string e.nm, .bool e.neg, .int .i64 e.id, .int .i64 e.kind, .int .i64 e.mode, .string e.tg], .int .i64 E]) ∧ Below w.heap.size w w') := by
  refine ⟨if namedE M s.es d nm = 0 then nowE s.es d nm else zeroEn, _, rfl, fun h => by rw [if_pos h], fun w hw => ?_⟩
  have := Look_p M hM t s d nm w hw
  rw [lookV_form] at this
  exact this

set_option maxHeartbeats 8000000 in
theorem add_p (M : Nms) (hM : NmsP M) (t : Nat) (s : Tr) (o : Opn) (id kind mode : Int) (tg : ByteArray) (w : World) (h : IsP w t s) (hneg : ∀ e ∈ s.es, e.neg = false) (hnx : s.next ≠ 9223372036854775807) :
    Calls Try.prog 78 #[.pointer (some ⟨t, 0, none⟩), .agg o.arr, .agg #[.int .i64 id, .int .i64 kind, .int .i64 mode, .string tg]] w fun e w' => MutR w w' e (addE M s.es o.dir o.nm kind mode tg) [⟨o.dir, o.nm, false, s.next, kind, mode, tg⟩] := by
  obtain ⟨e, E, hE, hnow, HL⟩ := Look_q M hM t s o.dir o.nm
  obtain ⟨R, hR⟩ : ∃ x, rightE M kind mode tg = x := ⟨_, rfl⟩
  have HRt : Hid (∀ id w, Calls Try.prog 91 #[.agg #[.int .i64 id, .int .i64 kind, .int .i64 mode, .string tg]] w fun e w' => e = .returned (.int .i64 R) ∧ Below w.heap.size w w') := fun id w => by rw [← hR]; exact right_p M hM id kind mode tg w
  have H : Hid (IsP w t s) := h
  obtain ⟨A, hA⟩ : ∃ x, addE M s.es o.dir o.nm kind mode tg = x := ⟨_, rfl⟩
  have HA : Hid (A = if E ≠ 0 then E else if R ≠ 0 then R else madeE s.es o.dir o.nm) := by show _ = _; rw [← hA]; unfold addE; rw [← hE, hR]
  rw [hA]
  have HN : Hid ((E = 0 → e = nowE s.es o.dir o.nm) ∧ ∀ e ∈ s.es, e.neg = false) := ⟨hnow, hneg⟩
  have HCt : Hid (∀ w, IsP w t s → Calls Try.prog 92 #[.pointer (some ⟨t, 0, none⟩)] w fun e w' => e = .returned (.int .i64 ((s.es.length : Int) + 1)) ∧ w' = w) := fun w h => count_p t s w h
  obtain ⟨-, -, c2, -⟩ := h.cells
  have hlt := h.tt.lt
  obtain ⟨n, hn⟩ : ∃ n, s.es.length = n := ⟨_, rfl⟩
  obtain ⟨NX, hNX⟩ : ∃ n, s.next = n := ⟨_, rfl⟩
  rw [hn] at HCt
  rw [hNX] at c2 hnx ⊢
  have hlim := h.lim
  rw [hn] at hlim
  have Hn : Hid (s.es.length = n) := hn
  clear hM hE hR hA hnow hneg h hn hNX
  obtain ⟨ok, od, onm, odst, onew, omode, otg⟩ := o
  simp only [Opn.arr] at *
  go_enter Try.func78, Try.ntmps78
  go_upto_region 1 with fail
  obtain ⟨W, hW⟩ : ∃ W, (w.alloc (.cells #[.int .i64 ok, .int .i64 od, .string onm, .int .i64 odst, .string onew, .int .i64 omode, .string otg] 65)).alloc (.cells #[.int .i64 id, .int .i64 kind, .int .i64 mode, .string tg] 31) = W := ⟨_, rfl⟩
  rw [hW]
  obtain ⟨m0, m1, hbW, hzW⟩ := boxes2 hW
  have q1 := cell_of m0 1
  have q2 := cell_of m0 2
  simp at q1 q2
  have HW : Hid (W.heap[w.heap.size + 1]? = some (.cells #[.int .i64 id, .int .i64 kind, .int .i64 mode, .string tg] 31 (0, 0)) ∧ W.heap.size = w.heap.size + 1 + 1 ∧ Below w.heap.size w W) := ⟨m1, hzW, hbW⟩
  clear hW m0 m1 hzW
  by_cases hE0 : E = 0
  · subst hE0
    go_upto_region 4 with (go_at_call 11; refine (HL.out _ (H.out.below HW.out.2.2)).mono ?_; rintro x w1 ⟨rfl, hb1⟩)
    obtain ⟨W2, hW2⟩ : ∃ W2, w1.alloc (.cells #[.int .i64 e.d, .string e.nm, .bool e.neg, .int .i64 e.id, .int .i64 e.kind, .int .i64 e.mode, .string e.tg] 42) = W2 := ⟨_, rfl⟩
    have hbx : W2.heap[w1.heap.size]? = some (.cells e.vals.toArray 42 (0, 0)) := by rw [← hW2]; exact heap_new _ _
    have hb2 : Below W.heap.size W W2 := by rw [← hW2]; exact chainB hb1 (below_alloc _ _)
    rw [hW2]
    have hnd := hkeep HW.out.1 hb2
    have n0 := cell_of hnd 0
    have n1 := cell_of hnd 1
    have n2 := cell_of hnd 2
    have n3 := cell_of hnd 3
    simp at n0 n1 n2 n3
    have H2 : Hid (W2.heap[w1.heap.size]? = some (.cells e.vals.toArray 42 (0, 0)) ∧ Below w.heap.size w W2 ∧ W2.heap[w.heap.size + 1]? = some (.cells #[.int .i64 id, .int .i64 kind, .int .i64 mode, .string tg] 31 (0, 0)) ∧ w.heap.size + 1 < w1.heap.size) := ⟨hbx, chainB HW.out.2.2 hb2, hnd, by have := hb1.size; have := HW.out.2.1; omega⟩
    clear hW2 hbx hb2 hnd q1 q2 hb1
    by_cases hR0 : R = 0
    · subst hR0
      -- what the name is, and the room
      cases hq : atE s.es od onm with
      | some f =>
        have hef : e = f := by rw [HN.out.1 (by simp), nowE_at, hq]
        have hen : e.neg = false := by rw [hef]; exact HN.out.2 f (atE_key hq).1
        have HA2 : Hid (A = 41) := by show _ = _; rw [HA.out]; unfold madeE; rw [hq]; simp
        clear hq hef
        go_wp2_with (go_at_call 91; refine (HRt.out _ _).mono ?_; rintro x w3 ⟨rfl, hb3⟩; have b2 := (cells7_of (hkeep H2.out.1 hb3)).c2; simp only [Nat.zero_add] at b2; rw [hen] at b2)
        go_ret2
        exact MutR.no (by rw [HA2.out]; decide) (by rw [HA2.out]; rfl) (chainB H2.out.2.1 hb3)
      | none =>
        have hef : e = goneEn od onm := by rw [HN.out.1 (by simp), nowE_at, hq]; rfl
        subst hef
        have HA2 : Hid (A = if 47 ≤ n then 47 else 0) := by show _ = _; rw [HA.out]; unfold madeE; rw [hq, Hn.out]; simp
        clear hq
        by_cases hf : 47 ≤ n
        · have hfi : (48 : Int) ≤ (n : Int) + 1 := by omega
          have HA3 : Hid (A = 47) := by show _ = _; rw [HA2.out, if_pos hf]
          go_wp2_with (first
            | (go_at_call 91; refine (HRt.out _ _).mono ?_; rintro x w3 ⟨rfl, hb3⟩; have b2 : w3.cell? ⟨w1.heap.size, 2, none⟩ = some (.bool true) := (cells7_of (hkeep H2.out.1 hb3)).c2)
            | (go_at_call 92; refine (HCt.out _ (H.out.below (chainB H2.out.2.1 hb3))).mono ?_; rintro x w4 ⟨rfl, rfl⟩))
          go_ret2
          exact MutR.no (by rw [HA3.out]; decide) (by rw [HA3.out]; rfl) (chainB H2.out.2.1 hb3)
        · have hfi : ¬ (48 : Int) ≤ (n : Int) + 1 := by omega
          have HA3 : Hid (A = 0) := by show _ = _; rw [HA2.out, if_neg hf]
          have hnxb : (NX == 9223372036854775807) = false := by simpa using hnx
          go_upto_region 13 with (first
            | (go_at_call 91; refine (HRt.out _ _).mono ?_; rintro x w3 ⟨rfl, hb3⟩; have hbb := cells7_of (hkeep H2.out.1 hb3); have b2 : w3.cell? ⟨w1.heap.size, 2, none⟩ = some (.bool true) := hbb.c2; have b0 : w3.cell? ⟨w1.heap.size, 0, none⟩ = some (.int .i64 od) := hbb.c0; have b1 : w3.cell? ⟨w1.heap.size, 1, none⟩ = some (.string onm) := hbb.c1; have c2' := ((chainB H2.out.2.1 hb3).cell (p := ⟨t, 2, none⟩) hlt).trans c2; clear hbb)
            | (go_at_call 92; refine (HCt.out _ (H.out.below (chainB H2.out.2.1 hb3))).mono ?_; rintro x w4 ⟨rfl, rfl⟩))
          have hnd := hkeep H2.out.2.2.1 hb3
          have hndf := free_of hnd
          have p0 := cell_of hnd 0
          have p1 := cell_of hnd 1
          have p2 := cell_of hnd 2
          have p3 := cell_of hnd 3
          simp at p0 p1 p2 p3
          have hne1 : w1.heap.size ≠ w.heap.size + 1 := by have := H2.out.2.2.2; omega
          have HB3 : Hid (Below w.heap.size w (w4.setCell ⟨w.heap.size + 1, 0, none⟩ (.int .i64 NX))) := (only1 w4 (w.heap.size + 1) 0 _).below (chainB H2.out.2.1 hb3) (chainB H2.out.2.1 hb3).size (fun k hk => by omega)
          clear hnd b2 n0 n1 n2 n3
          go_wp2
          go_ret2
          rw [HA3.out]
          have hz : (w4.setCell ⟨w.heap.size + 1, 0, none⟩ (.int .i64 NX)).heap.size = w4.heap.size := by simp [World.setCell]
          exact MutR.one (x := ⟨od, onm, false, NX, kind, mode, tg⟩) (by rw [hz]; rfl) HB3.out
    · have hRb : (R != 0) = true := by simpa using hR0
      have HA2 : Hid (A = R ∧ R ≠ 0) := ⟨by rw [HA.out]; simp [hR0], hR0⟩
      clear hR0
      go_wp2_with (go_at_call 91; refine (HRt.out _ _).mono ?_; rintro x w3 ⟨rfl, hb3⟩)
      go_ret2
      exact MutR.no (by rw [HA2.out.1]; exact HA2.out.2) (by rw [HA2.out.1]; rfl) (chainB H2.out.2.1 hb3)
  · have hEb : (E != 0) = true := by simpa using hE0
    have HA2 : Hid (A = E ∧ E ≠ 0) := ⟨by rw [HA.out]; simp [hE0], hE0⟩
    clear hE0
    go_wp2_with (go_at_call 11; refine (HL.out _ (H.out.below HW.out.2.2)).mono ?_; rintro x w1 ⟨rfl, hb1⟩)
    go_ret2
    exact MutR.no (by rw [HA2.out.1]; exact HA2.out.2) (by rw [HA2.out.1]; rfl) (chainB (chainB HW.out.2.2 hb1) (below_alloc _ _))

theorem addE_does {M : Nms} {s : Tr} {o : Opn} (kind mode : Int) (tg : ByteArray) (hk : (o.kind = 5 ∧ kind = 2 ∨ o.kind = 6 ∧ kind = 1) ∧ mode = o.mode ∧ tg = ⟨#[]⟩ ∨ o.kind = 7 ∧ kind = 3 ∧ mode = 0 ∧ tg = o.tg) : addE M s.es o.dir o.nm kind mode tg = doesE M s o ∧ [⟨o.dir, o.nm, false, s.next, kind, mode, tg⟩] = tellL s o := by
  unfold addE doesE tellL rightE
  rcases hk with ⟨⟨h1, rfl⟩ | ⟨h1, rfl⟩, rfl, rfl⟩ | ⟨h1, rfl, rfl, rfl⟩
  · refine ⟨?_, by simp [h1]⟩
    by_cases hn : namedE M s.es o.dir o.nm = 0
    · cases badM o.mode <;> simp [h1, hn, ByteArray.toList_eq]
    · simp [h1, hn]
  · refine ⟨?_, by simp [h1]⟩
    by_cases hn : namedE M s.es o.dir o.nm = 0
    · cases badM o.mode <;> simp [h1, hn, ByteArray.toList_eq]
    · simp [h1, hn]
  · refine ⟨?_, by simp [h1]⟩
    have hb : badM 0 = false := rfl
    by_cases hn : namedE M s.es o.dir o.nm = 0
    · simp [h1, hn, hb]
    · simp [h1, hn]
set_option maxHeartbeats 4000000 in
theorem create_p (M : Nms) (hM : NmsP M) (t : Nat) (s : Tr) (o : Opn) (w : World) (h : IsP w t s) (hneg : ∀ e ∈ s.es, e.neg = false) (hnx : s.next ≠ 9223372036854775807) (hk : o.kind = 5) :
    Calls Try.prog 57 #[.pointer (some ⟨t, 0, none⟩), .agg o.arr] w fun e w' => MutR w w' e (doesE M s o) (tellL s o) := by
  obtain ⟨h1, h2⟩ := addE_does (M := M) (s := s) (o := o) 2 o.mode ⟨#[]⟩ (.inl ⟨.inl ⟨hk, rfl⟩, rfl, rfl⟩)
  have HA : Hid (∀ w, IsP w t s → Calls Try.prog 78 #[.pointer (some ⟨t, 0, none⟩), .agg o.arr, .agg #[.int .i64 0, .int .i64 2, .int .i64 o.mode, .string ⟨#[]⟩]] w fun e w' => MutR w w' e (doesE M s o) (tellL s o)) := fun w hw => by rw [← h1, ← h2]; exact add_p M hM t s o 0 2 o.mode ⟨#[]⟩ w hw hneg hnx
  have H : Hid (IsP w t s) := h
  obtain ⟨E, hE⟩ : ∃ x, doesE M s o = x := ⟨_, rfl⟩
  obtain ⟨L, hL⟩ : ∃ x, tellL s o = x := ⟨_, rfl⟩
  rw [hE, hL] at HA ⊢
  clear h1 h2 h hneg hnx hM hE hL hk
  obtain ⟨ok, od, onm, odst, onew, omode, otg⟩ := o
  simp only [Opn.arr] at *
  go_enter Try.func57, Try.ntmps57
  go_wp2_with (go_at_call 78; refine (HA.out _ (H.out.below (below_alloc _ _))).mono ?_; intro x w1 hx; have hx' := hx.le (below_alloc _ _); obtain ⟨v, rfl, hy⟩ := hx'; clear hx)
  go_ret2
  exact ⟨v, rfl, hy⟩
set_option maxHeartbeats 4000000 in
theorem mkdir_p (M : Nms) (hM : NmsP M) (t : Nat) (s : Tr) (o : Opn) (w : World) (h : IsP w t s) (hneg : ∀ e ∈ s.es, e.neg = false) (hnx : s.next ≠ 9223372036854775807) (hk : o.kind = 6) :
    Calls Try.prog 58 #[.pointer (some ⟨t, 0, none⟩), .agg o.arr] w fun e w' => MutR w w' e (doesE M s o) (tellL s o) := by
  obtain ⟨h1, h2⟩ := addE_does (M := M) (s := s) (o := o) 1 o.mode ⟨#[]⟩ (.inl ⟨.inr ⟨hk, rfl⟩, rfl, rfl⟩)
  have HA : Hid (∀ w, IsP w t s → Calls Try.prog 78 #[.pointer (some ⟨t, 0, none⟩), .agg o.arr, .agg #[.int .i64 0, .int .i64 1, .int .i64 o.mode, .string ⟨#[]⟩]] w fun e w' => MutR w w' e (doesE M s o) (tellL s o)) := fun w hw => by rw [← h1, ← h2]; exact add_p M hM t s o 0 1 o.mode ⟨#[]⟩ w hw hneg hnx
  have H : Hid (IsP w t s) := h
  obtain ⟨E, hE⟩ : ∃ x, doesE M s o = x := ⟨_, rfl⟩
  obtain ⟨L, hL⟩ : ∃ x, tellL s o = x := ⟨_, rfl⟩
  rw [hE, hL] at HA ⊢
  clear h1 h2 h hneg hnx hM hE hL hk
  obtain ⟨ok, od, onm, odst, onew, omode, otg⟩ := o
  simp only [Opn.arr] at *
  go_enter Try.func58, Try.ntmps58
  go_wp2_with (go_at_call 78; refine (HA.out _ (H.out.below (below_alloc _ _))).mono ?_; intro x w1 hx; have hx' := hx.le (below_alloc _ _); obtain ⟨v, rfl, hy⟩ := hx'; clear hx)
  go_ret2
  exact ⟨v, rfl, hy⟩
set_option maxHeartbeats 4000000 in
theorem symlink_p (M : Nms) (hM : NmsP M) (t : Nat) (s : Tr) (o : Opn) (w : World) (h : IsP w t s) (hneg : ∀ e ∈ s.es, e.neg = false) (hnx : s.next ≠ 9223372036854775807) (hk : o.kind = 7) :
    Calls Try.prog 59 #[.pointer (some ⟨t, 0, none⟩), .agg o.arr] w fun e w' => MutR w w' e (doesE M s o) (tellL s o) := by
  obtain ⟨h1, h2⟩ := addE_does (M := M) (s := s) (o := o) 3 0 o.tg (.inr ⟨hk, rfl, rfl, rfl⟩)
  have HA : Hid (∀ w, IsP w t s → Calls Try.prog 78 #[.pointer (some ⟨t, 0, none⟩), .agg o.arr, .agg #[.int .i64 0, .int .i64 3, .int .i64 0, .string o.tg]] w fun e w' => MutR w w' e (doesE M s o) (tellL s o)) := fun w hw => by rw [← h1, ← h2]; exact add_p M hM t s o 0 3 0 o.tg w hw hneg hnx
  have H : Hid (IsP w t s) := h
  obtain ⟨E, hE⟩ : ∃ x, doesE M s o = x := ⟨_, rfl⟩
  obtain ⟨L, hL⟩ : ∃ x, tellL s o = x := ⟨_, rfl⟩
  rw [hE, hL] at HA ⊢
  clear h1 h2 h hneg hnx hM hE hL hk
  obtain ⟨ok, od, onm, odst, onew, omode, otg⟩ := o
  simp only [Opn.arr] at *
  go_enter Try.func59, Try.ntmps59
  go_wp2_with (go_at_call 78; refine (HA.out _ (H.out.below (below_alloc _ _))).mono ?_; intro x w1 hx; have hx' := hx.le (below_alloc _ _); obtain ⟨v, rfl, hy⟩ := hx'; clear hx)
  go_ret2
  exact ⟨v, rfl, hy⟩
end
end Go.Proofs.Ytppbbddlbfgpfaa
