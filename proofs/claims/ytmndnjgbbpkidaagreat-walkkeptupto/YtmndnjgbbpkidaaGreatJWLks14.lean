/- A law's cache: what it says, and what the law keeps beside it; one line for each call. -/
import Derived.Test.YtmndnjgbbpkidaaGreatJWLks13
import Derived.Test.YtmndnjgbbpkidaaGreatJWLks02
import Derived.ProofKit
import Derived.OpenShut
import Derived.Deep.Slices
import Derived.SizedLaws
import Derived.Lib.SmallJoins
namespace Go.Proofs.YtmndnjgbbpkidaaGreat
section
open Go.RowKit

/-- a law's cache; n: no more uses, no more entries; F: blocks that the law keeps -/
structure Ld (w0 wr : World) (p : Nat) (s : Cs) (n : Nat) (F : Nat → Prop) : Prop where
  ex : ∃ c, IsC wr p c ∧ Says c s ∧ c.uses ≤ n ∧ ∀ k, c.blk p k → w0.heap.size ≤ k ∧ ¬ F k
  below : Below w0.heap.size w0 wr
  nn : ∀ e ∈ s.L, e.nm ≠ nob
  fl : ∀ k, F k → k < wr.heap.size
  len : s.L.length ≤ n
theorem Ld.mono {w0 wr : World} {p : Nat} {s : Cs} {n m : Nat} {F G : Nat → Prop} (h : Ld w0 wr p s n F) (hG : ∀ k, G k → F k) (hm : n ≤ m) : Ld w0 wr p s m G := by
  obtain ⟨c, h1, h2, h3, h4⟩ := h.ex
  exact ⟨⟨c, h1, h2, Nat.le_trans h3 hm, fun k hk => ⟨(h4 k hk).1, fun e => (h4 k hk).2 (hG k e)⟩⟩, h.below, h.nn, fun k hk => h.fl k (hG k hk), Nat.le_trans h.len hm⟩
/-- what is new is the law's -/
theorem Ld.on {w0 wr w' : World} {p : Nat} {s : Cs} {n : Nat} {F : Nat → Prop} (h : Ld w0 wr p s n F) (hb : Below wr.heap.size wr w') : Ld w0 w' p s n (fun k => F k ∨ wr.heap.size ≤ k ∧ k < w'.heap.size) := by
  obtain ⟨c, h1, h2, h3, h4⟩ := h.ex
  refine ⟨⟨c, h1.below hb, h2, h3, fun k hk => ⟨(h4 k hk).1, fun e => ?_⟩⟩, chainB h.below hb, h.nn, fun k hk => ?_, h.len⟩
  · rcases e with e | e
    · exact (h4 k hk).2 e
    · have := h1.lt hk; omega
  · rcases hk with hk | hk
    · exact Nat.lt_of_lt_of_le (h.fl k hk) hb.size
    · exact hk.2
theorem Ld.on' {w0 wr w' : World} {p : Nat} {s : Cs} {n : Nat} {F : Nat → Prop} (h : Ld w0 wr p s n F) (hb : Below wr.heap.size wr w') : Ld w0 w' p s n F := (h.on hb).mono (fun _ hk => .inl hk) (Nat.le_refl _)
/-- the law writes blocks of its own -/
theorem Ld.own {w0 wr w' : World} {p : Nat} {s : Cs} {n : Nat} {F : Nat → Prop} (h : Ld w0 wr p s n F) (hO : Only F wr w') (hF : ∀ k, F k → w0.heap.size ≤ k) : Ld w0 w' p s n (fun k => F k ∨ wr.heap.size ≤ k ∧ k < w'.heap.size) := by
  obtain ⟨c, h1, h2, h3, h4⟩ := h.ex
  refine ⟨⟨c, h1.moved fun k hk => hO.block k (h1.lt hk) (h4 k hk).2, h2, h3, fun k hk => ⟨(h4 k hk).1, fun e => ?_⟩⟩, hO.below h.below h.below.size hF, h.nn, fun k hk => ?_, h.len⟩
  · rcases e with e | e
    · exact (h4 k hk).2 e
    · have := h1.lt hk; omega
  · rcases hk with hk | hk
    · exact Nat.lt_of_lt_of_le (h.fl k hk) hO.size
    · exact hk.2
/-- behind a call that may change it -/
structure Ldc (w0 wr w' : World) (p : Nat) (s : Cs) (n : Nat) (F : Nat → Prop) : Prop where
  ld : Ld w0 w' p s n F
  kept : ∀ k, F k → w'.heap[k]? = wr.heap[k]?
  size : wr.heap.size ≤ w'.heap.size
theorem ldc_of {w0 wr w' : World} {p : Nat} {s s' : Cs} {n n' : Nat} {F : Nat → Prop} (h : Ld w0 wr p s n F) {c c' : Pc} (h4 : ∀ k, c.blk p k → w0.heap.size ≤ k ∧ ¬ F k) (a : Aft wr w' p c c') (hs : Says c' s') (hu : c'.uses ≤ n') (hn : ∀ e ∈ s'.L, e.nm ≠ nob) (hl : s'.L.length ≤ n') : Ldc w0 wr w' p s' n' F := by
  refine ⟨⟨⟨c', a.is, hs, hu, fun k hk => ?_⟩, a.only.below h.below h.below.size (fun k hk => (h4 k hk).1), hn, fun k hk => Nat.lt_of_lt_of_le (h.fl k hk) a.only.size, hl⟩, fun k hk => a.only.block k (h.fl k hk) (fun e => (h4 k e).2 hk), a.only.size⟩
  rcases a.nblk k hk with hk | hk
  · exact h4 k hk
  · exact ⟨Nat.le_trans h.below.size hk, fun e => by have := h.fl k e; omega⟩
theorem put_len (s : Cs) (e : En) : (s.put e).L.length ≤ s.L.length + 1 := by
  unfold Cs.put outL
  simp only [List.length_append, List.length_cons, List.length_nil]
  have := List.length_filter_le (fun x => !hasK e.key x) s.L
  omega
theorem mem_put {s : Cs} {e x : En} (h : x ∈ (s.put e).L) : x ∈ s.L ∨ x = e := by
  unfold Cs.put outL at h
  rcases List.mem_append.1 h with h | h
  · exact .inl (List.mem_filter.1 h).1
  · exact .inr (List.mem_singleton.1 h)
def putS (s : Cs) (e : En) : Cs := if e.nm = nob then s else s.put e
theorem ld_put {w0 wr : World} {p : Nat} {s : Cs} {n : Nat} {F : Nat → Prop} (h : Ld w0 wr p s n F) (e : En) (hn : n < 4611686018427387904) : Calls Tryz.prog 20 #[.pointer (some ⟨p, 0, none⟩), e.agg] wr fun x w' => x = .returned (.int .i64 (if e.nm = nob then 1 else 0)) ∧ Ldc w0 wr w' p (putS s e) (n + 1) F := by
  obtain ⟨c, h1, h2, h3, h4⟩ := h.ex
  refine (putK_p p c s e wr h1 h2 (by omega)).mono ?_
  rintro x w' ⟨rfl, c', a, hs', hu⟩
  refine ⟨rfl, ldc_of h h4 a hs' (by omega) ?_ ?_⟩
  · unfold putS
    split
    · exact h.nn
    · rename_i he
      intro x hx
      rcases mem_put hx with hx | rfl
      · exact h.nn x hx
      · exact he
  · have := h.len
    unfold putS
    split
    · omega
    · have := put_len s e; omega
theorem use_len (s : Cs) (k : Ky) : (s.use k).L.length ≤ s.L.length + 1 := by
  unfold Cs.use
  split
  · simp only [List.length_append, List.length_cons, List.length_nil]
    have := List.length_filter_le (fun x => !hasK k x) s.L
    unfold outL
    omega
  · omega
theorem mem_use {s : Cs} {k : Ky} {x : En} (h : x ∈ (s.use k).L) : x ∈ s.L := by
  unfold Cs.use at h
  cases hg : getL s.L k with
  | none => rw [hg] at h; exact h
  | some e =>
    rw [hg] at h
    rcases List.mem_append.1 h with h | h
    · exact (List.mem_filter.1 h).1
    · rw [List.mem_singleton.1 h]; exact List.mem_of_find?_eq_some hg
theorem ld_use {w0 wr : World} {p : Nat} {s : Cs} {n : Nat} {F : Nat → Prop} (h : Ld w0 wr p s n F) (k : Ky) (hn : n < 4611686018427387904) : Calls Tryz.prog 22 #[.pointer (some ⟨p, 0, none⟩), .agg #[.int .i64 k.d, .string k.nm]] wr fun x w' => x = .returned (.bool (getL s.L k).isSome) ∧ Ldc w0 wr w' p (s.use k) (n + 1) F := by
  obtain ⟨c, h1, h2, h3, h4⟩ := h.ex
  refine (use_p p c s k wr h1 h2 h.nn (by omega)).mono ?_
  rintro x w' ⟨rfl, c', a, hs', hu⟩
  refine ⟨rfl, ldc_of h h4 a hs' (by omega) (fun e he => h.nn e (mem_use he)) ?_⟩
  have := h.len
  have := use_len s k
  omega
theorem mem_evict {s : Cs} {k : Ky} {x : En} (h : x ∈ (s.evict k).L) : x ∈ s.L := by
  unfold Cs.evict at h
  cases hg : getL s.L k with
  | none => rw [hg] at h; exact h
  | some e => rw [hg] at h; exact (List.mem_filter.1 h).1
theorem evict_len (s : Cs) (k : Ky) : (s.evict k).L.length ≤ s.L.length := by
  unfold Cs.evict
  split
  · exact Nat.le_refl _
  · exact List.length_filter_le _ _
theorem ld_evict {w0 wr : World} {p : Nat} {s : Cs} {n : Nat} {F : Nat → Prop} (h : Ld w0 wr p s n F) (k : Ky) : Calls Tryz.prog 29 #[.pointer (some ⟨p, 0, none⟩), .agg #[.int .i64 k.d, .string k.nm]] wr fun x w' => x = .returned (.bool (getL s.L k).isSome) ∧ Ldc w0 wr w' p (s.evict k) n F := by
  obtain ⟨c, h1, h2, h3, h4⟩ := h.ex
  refine (evict_p p c s k wr h1 h2).mono ?_
  rintro x w' ⟨rfl, c', a, hs', hu⟩
  exact ⟨rfl, ldc_of h h4 a hs' (by omega) (fun e he => h.nn e (mem_evict he)) (Nat.le_trans (evict_len s k) h.len)⟩
theorem cut_sub (ks : List Ky) : ∀ (s : Cs), (s.cut ks).L.Sublist s.L := by
  unfold Cs.cut
  induction ks with
  | nil => exact fun s => List.Sublist.refl _
  | cons k ks ih => exact fun s => (ih (s.cut1 k)).trans List.filter_sublist
theorem ld_cut {w0 wr : World} {p : Nat} {s : Cs} {n : Nat} {F : Nat → Prop} (h : Ld w0 wr p s n F) (v : Value) (ks : List Ky) (hk : RdK wr v ks (fun k => w0.heap.size ≤ k ∧ ¬ F k)) (hl : ks.length ≤ 1000000000000000) : Calls Tryz.prog 24 #[.pointer (some ⟨p, 0, none⟩), v] wr fun x w' => x = .returned (.tuple #[]) ∧ Ldc w0 wr w' p (s.cut ks) n F := by
  obtain ⟨c, h1, h2, h3, h4⟩ := h.ex
  have hk' : RdK wr v ks (c.blk p) := by
    obtain ⟨a, cap, rfl, hk⟩ := hk
    refine ⟨a, cap, rfl, fun j k hj => ?_⟩
    obtain ⟨g, o, e, q0, q1, hg⟩ := hk j k hj
    exact ⟨g, o, e, q0, q1, fun hb => hg (h4 g hb)⟩
  refine (cut_p p c s v ks wr h1 h2 hk' hl).mono ?_
  rintro x w' ⟨rfl, c', a, hs', hu⟩
  exact ⟨rfl, ldc_of h h4 a hs' (by omega) (fun e he => h.nn e ((cut_sub ks s).subset he)) (Nat.le_trans (cut_sub ks s).length_le h.len)⟩
def Cs.clear : Cs := ⟨[], []⟩
theorem ld_clear {w0 wr : World} {p : Nat} {s : Cs} {n : Nat} {F : Nat → Prop} (h : Ld w0 wr p s n F) : Calls Tryz.prog 27 #[.pointer (some ⟨p, 0, none⟩)] wr fun x w' => x = .returned (.tuple #[]) ∧ Ldc w0 wr w' p Cs.clear n F := by
  obtain ⟨c, h1, h2, h3, h4⟩ := h.ex
  refine (clear_p p c wr h1).mono ?_
  rintro x w' ⟨rfl, a⟩
  refine ⟨rfl, ldc_of h h4 a ⟨⟨[], by simp, by simp, List.Perm.refl _, rfl⟩, fun d => by simp [Cs.clear]⟩ h3 (fun e he => by cases he) (Nat.zero_le _)⟩
theorem ld_setW {w0 wr : World} {p : Nat} {s : Cs} {n : Nat} {F : Nat → Prop} (h : Ld w0 wr p s n F) (d : Int) : Calls Tryz.prog 31 #[.pointer (some ⟨p, 0, none⟩), .int .i64 d] wr fun x w' => x = .returned (.tuple #[]) ∧ Ldc w0 wr w' p (s.setW d) n F := by
  obtain ⟨c, h1, h2, h3, h4⟩ := h.ex
  refine (setWhole_p p c d wr h1).mono ?_
  rintro x w' ⟨rfl, a⟩
  refine ⟨rfl, ldc_of h h4 a ⟨h2.rep, fun x => ?_⟩ h3 h.nn h.len⟩
  show x ∈ (s.setW d).W ↔ x ∈ (mput c.wl d ()).map (·.1)
  rw [mem_setW, mem_putW h1.wn, h2.wh]
theorem ld_new (w0 wr : World) (F : Nat → Prop) (hb : Below w0.heap.size w0 wr) (hF : ∀ k, F k → k < wr.heap.size) : Calls Tryz.prog 18 #[] wr fun x w' => ∃ p, x = .returned (.pointer (some ⟨p, 0, none⟩)) ∧ Ldc w0 wr w' p Cs.clear 0 F := by
  refine (newK_p wr).mono ?_
  rintro x w' ⟨p, c, rfl, h1, h2, h3, h4, h5⟩
  exact ⟨p, rfl, ⟨⟨c, h1, h2, by omega, fun k hk => ⟨Nat.le_trans hb.size (h5 k hk), fun e => by have := hF k e; have := h5 k hk; omega⟩⟩, chainB hb h4, fun e he => (by cases he), fun k hk => Nat.lt_of_lt_of_le (hF k hk) h4.size, Nat.zero_le _⟩, fun k hk => h4.block k (hF k hk), h4.size⟩
/-- calls that only read -/
theorem ld_get {w0 wr : World} {p : Nat} {s : Cs} {n : Nat} {F : Nat → Prop} (h : Ld w0 wr p s n F) (k : Ky) : Calls Tryz.prog 40 #[.pointer (some ⟨p, 0, none⟩), .agg #[.int .i64 k.d, .string k.nm]] wr fun x w' => x = .returned (.tuple #[((getL s.L k).getD zeroEn).agg, .bool (getL s.L k).isSome]) ∧ Below wr.heap.size wr w' := by
  obtain ⟨c, h1, h2, h3, h4⟩ := h.ex
  exact get_s p c s k wr h1 h2
theorem ld_whole {w0 wr : World} {p : Nat} {s : Cs} {n : Nat} {F : Nat → Prop} (h : Ld w0 wr p s n F) (d : Int) : Calls Tryz.prog 44 #[.pointer (some ⟨p, 0, none⟩), .int .i64 d] wr fun x w' => x = .returned (.bool (decide (d ∈ s.W))) ∧ Below wr.heap.size wr w' := by
  obtain ⟨c, h1, h2, h3, h4⟩ := h.ex
  refine (whole_p p c d wr h1).mono ?_
  rintro x w' ⟨rfl, hb⟩
  exact ⟨by rw [h2.whole], hb⟩
theorem ld_leaf {w0 wr : World} {p : Nat} {s : Cs} {n : Nat} {F : Nat → Prop} (h : Ld w0 wr p s n F) (k : Ky) : Calls Tryz.prog 42 #[.pointer (some ⟨p, 0, none⟩), .agg #[.int .i64 k.d, .string k.nm]] wr fun x w' => x = .returned (.bool (leafB s.L k)) ∧ Below wr.heap.size wr w' := by
  obtain ⟨c, h1, h2, h3, h4⟩ := h.ex
  exact leaf_p p c s k wr h1 h2
theorem ld_len {w0 wr : World} {p : Nat} {s : Cs} {n : Nat} {F : Nat → Prop} (h : Ld w0 wr p s n F) (hn : n ≤ 1000000000000000) : Calls Tryz.prog 37 #[.pointer (some ⟨p, 0, none⟩)] wr fun x w' => x = .returned (.int .i64 s.L.length) ∧ Below wr.heap.size wr w' := by
  obtain ⟨c, h1, h2, h3, h4⟩ := h.ex
  exact len_p p c s wr h1 h2 (Nat.le_trans h.len hn)
theorem ld_neg {w0 wr : World} {p : Nat} {s : Cs} {n : Nat} {F : Nat → Prop} (h : Ld w0 wr p s n F) (hn : n ≤ 1000000000000000) : Calls Tryz.prog 38 #[.pointer (some ⟨p, 0, none⟩)] wr fun x w' => x = .returned (.int .i64 (negN s.L)) ∧ Below wr.heap.size wr w' := by
  obtain ⟨c, h1, h2, h3, h4⟩ := h.ex
  exact negatives_p p c s wr h1 h2 (Nat.le_trans h.len hn)
theorem ld_entries {w0 wr : World} {p : Nat} {s : Cs} {n : Nat} {F : Nat → Prop} (h : Ld w0 wr p s n F) (hn : n ≤ 1400000000000) : Calls Tryz.prog 36 #[.pointer (some ⟨p, 0, none⟩)] wr fun x w' => ∃ v, x = .returned v ∧ Row7 w' wr.heap.size v s.L ∧ Below wr.heap.size wr w' := by
  obtain ⟨c, h1, h2, h3, h4⟩ := h.ex
  exact entries_p p c s wr h1 h2 (Nat.le_trans h.len hn)
theorem ld_names {w0 wr : World} {p : Nat} {s : Cs} {n : Nat} {F : Nat → Prop} (h : Ld w0 wr p s n F) (d : Int) (hn : n ≤ 1400000000000) : Calls Tryz.prog 46 #[.pointer (some ⟨p, 0, none⟩), .int .i64 d] wr fun x w' => ∃ v m, x = .returned v ∧ Row7 w' wr.heap.size v m ∧ NamesR s.L d m ∧ Below wr.heap.size wr w' := by
  obtain ⟨c, h1, h2, h3, h4⟩ := h.ex
  exact names_p p c s d wr h1 h2 (Nat.le_trans h.len hn)
theorem Ld.keys {w0 wr : World} {p : Nat} {s : Cs} {n : Nat} {F : Nat → Prop} (h : Ld w0 wr p s n F) : KeysOk s.L := by
  obtain ⟨c, h1, h2, h3, h4⟩ := h.ex
  exact h2.keys h1.ok
theorem Ld.box {w0 wr : World} {p : Nat} {s : Cs} {n : Nat} {F : Nat → Prop} (h : Ld w0 wr p s n F) (o : Obj) : Ld w0 (wr.alloc o) p s n (fun k => F k ∨ k = wr.heap.size) := (h.on (below_alloc wr o)).mono (fun k hk => by
  rcases hk with hk | hk
  · exact .inl hk
  · exact .inr ⟨by omega, by rw [hk]; simp⟩) (Nat.le_refl _)
end
section

end
section
open Go.RowKit

theorem Tryz.cellsWord : Tryz.prog.cellsOf 3 = 1 := by kernel_rfl
theorem Tryz.cellsText : Tryz.prog.cellsOf 9 = 1 := by kernel_rfl
theorem seven {α : Type} {l : List α} (h : l.length = 7) : ∃ c0 c1 c2 c3 c4 c5 c6, l = [c0, c1, c2, c3, c4, c5, c6] := by
  match l, h with
  | [c0, c1, c2, c3, c4, c5, c6], _ => exact ⟨c0, c1, c2, c3, c4, c5, c6, rfl⟩
end
end Go.Proofs.YtmndnjgbbpkidaaGreat
