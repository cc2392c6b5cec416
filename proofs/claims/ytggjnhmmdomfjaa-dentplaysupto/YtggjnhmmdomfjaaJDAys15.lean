/- A law's cache: what it says, and what the law keeps beside it; one line for each call. -/
import Derived.Test.YtggjnhmmdomfjaaJDAys14
namespace Go.Proofs.Ytggjnhmmdomfjaa
section
open Go.RowKit

/-- a law's cache; n: no more uses, no more entries; F: blocks that the law keeps -/
structure Ld (w0 wr : World) (p : Nat) (s : Cs) (n : Nat) (F : Nat → Prop) : Prop where
  ex : ∃ c, IsC wr p c ∧ Says c s ∧ c.uses ≤ n ∧ ∀ k, c.blk p k → w0.heap.size ≤ k ∧ ¬ F k
  below : Below w0.heap.size w0 wr
  nn : ∀ e ∈ s.L, e.nm ≠ nob
  fl : ∀ k, F k → k < wr.heap.size
  len : s.L.length ≤ n
theorem Ld.mono {w0 wr : World} {p : Nat} {s : Cs} {n m : Nat} {F G : Nat → Prop} (h : Ld w0 wr p s n F) (hG : ∀ k, G k → F k) (hm : n ≤ m) : Ld w0 wr p s m G := by
  obtain ⟨c, h1, h2, h3, h4⟩ := h.ex
  exact ⟨⟨c, h1, h2, Nat.le_trans h3 hm, fun k hk => ⟨(h4 k hk).1, fun e => (h4 k hk).2 (hG k e)⟩⟩, h.below, h.nn, fun k hk => h.fl k (hG k hk), Nat.le_trans h.len hm⟩
/-- what is new is the law's -/
theorem Ld.on {w0 wr w' : World} {p : Nat} {s : Cs} {n : Nat} {F : Nat → Prop} (h : Ld w0 wr p s n F) (hb : Below wr.heap.size wr w') : Ld w0 w' p s n (fun k => F k ∨ wr.heap.size ≤ k ∧ k < w'.heap.size) := by
  obtain ⟨c, h1, h2, h3, h4⟩ := h.ex
  refine ⟨⟨c, h1.below hb, h2, h3, fun k hk => ⟨(h4 k hk).1, fun e => ?_⟩⟩, chainB h.below hb, h.nn, fun k hk => ?_, h.len⟩
  · rcases e with e | e
    · exact (h4 k hk).2 e
    · have := h1.lt hk; omega
  · rcases hk with hk | hk
    · exact Nat.lt_of_lt_of_le (h.fl k hk) hb.size
    · exact hk.2
theorem Ld.on' {w0 wr w' : World} {p : Nat} {s : Cs} {n : Nat} {F : Nat → Prop} (h : Ld w0 wr p s n F) (hb : Below wr.heap.size wr w') : Ld w0 w' p s n F := (h.on hb).mono (fun _ hk => .inl hk) (Nat.le_refl _)
/-- the law writes blocks of its own -/
theorem Ld.own {w0 wr w' : World} {p : Nat} {s : Cs} {n : Nat} {F : Nat → Prop} (h : Ld w0 wr p s n F) (hO : Only F wr w') (hF : ∀ k, F k → w0.heap.size ≤ k) : Ld w0 w' p s n (fun k => F k ∨ wr.heap.size ≤ k ∧ k < w'.heap.size) := by
  obtain ⟨c, h1, h2, h3, h4⟩ := h.ex
  refine ⟨⟨c, h1.moved fun k hk => hO.block k (h1.lt hk) (h4 k hk).2, h2, h3, fun k hk => ⟨(h4 k hk).1, fun e => ?_⟩⟩, hO.below h.below h.below.size hF, h.nn, fun k hk => ?_, h.len⟩
  · rcases e with e | e
    · exact (h4 k hk).2 e
    · have := h1.lt hk; omega
  · rcases hk with hk | hk
    · exact Nat.lt_of_lt_of_le (h.fl k hk) hO.size
    · exact hk.2
/-- behind a call that may change it -/
structure Ldc (w0 wr w' : World) (p : Nat) (s : Cs) (n : Nat) (F : Nat → Prop) : Prop where
  ld : Ld w0 w' p s n F
  kept : ∀ k, F k → w'.heap[k]? = wr.heap[k]?
  size : wr.heap.size ≤ w'.heap.size
theorem ldc_of {w0 wr w' : World} {p : Nat} {s s' : Cs} {n n' : Nat} {F : Nat → Prop} (h : Ld w0 wr p s n F) {c c' : Pc} (h4 : ∀ k, c.blk p k → w0.heap.size ≤ k ∧ ¬ F k) (a : Aft wr w' p c c') (hs : Says c' s') (hu : c'.uses ≤ n') (hn : ∀ e ∈ s'.L, e.nm ≠ nob) (hl : s'.L.length ≤ n') : Ldc w0 wr w' p s' n' F := by
  refine ⟨⟨⟨c', a.is, hs, hu, fun k hk => ?_⟩, a.only.below h.below h.below.size (fun k hk => (h4 k hk).1), hn, fun k hk => Nat.lt_of_lt_of_le (h.fl k hk) a.only.size, hl⟩, fun k hk => a.only.block k (h.fl k hk) (fun e => (h4 k e).2 hk), a.only.size⟩
  rcases a.nblk k hk with hk | hk
  · exact h4 k hk
  · exact ⟨Nat.le_trans h.below.size hk, fun e => by have := h.fl k e; omega⟩
theorem put_len (s : Cs) (e : En) : (s.put e).L.length ≤ s.L.length + 1 := by
  unfold Cs.put outL
  simp only [List.length_append, List.length_cons, List.length_nil]
  have := List.length_filter_le (fun x => !hasK e.key x) s.L
  omega
theorem mem_put {s : Cs} {e x : En} (h : x ∈ (s.put e).L) : x ∈ s.L ∨ x = e := by
  unfold Cs.put outL at h
  rcases List.mem_append.1 h with h | h
  · exact .inl (List.mem_filter.1 h).1
  · exact .inr (List.mem_singleton.1 h)
def putS (s : Cs) (e : En) : Cs := if e.nm = nob then s else s.put e
theorem ld_put {w0 wr : World} {p : Nat} {s : Cs} {n : Nat} {F : Nat → Prop} (h : Ld w0 wr p s n F) (e : En) (hn : n < 4611686018427387904) : Calls Try.prog 32 #[.pointer (some ⟨p, 0, none⟩), e.agg] wr fun x w' => x = .returned (.int .i64 (if e.nm = nob then 1 else 0)) ∧ Ldc w0 wr w' p (putS s e) (n + 1) F := by
  obtain ⟨c, h1, h2, h3, h4⟩ := h.ex
  refine (put_p p c s e wr h1 h2 (by omega)).mono ?_
  rintro x w' ⟨rfl, c', a, hs', hu⟩
  refine ⟨rfl, ldc_of h h4 a hs' (by omega) ?_ ?_⟩
  · unfold putS
    split
    · exact h.nn
    · rename_i he
      intro x hx
      rcases mem_put hx with hx | rfl
      · exact h.nn x hx
      · exact he
  · have := h.len
    unfold putS
    split
    · omega
    · have := put_len s e; omega
theorem use_len (s : Cs) (k : Ky) : (s.use k).L.length ≤ s.L.length + 1 := by
  unfold Cs.use
  split
  · simp only [List.length_append, List.length_cons, List.length_nil]
    have := List.length_filter_le (fun x => !hasK k x) s.L
    unfold outL
    omega
  · omega
theorem mem_use {s : Cs} {k : Ky} {x : En} (h : x ∈ (s.use k).L) : x ∈ s.L := by
  unfold Cs.use at h
  cases hg : getL s.L k with
  | none => rw [hg] at h; exact h
  | some e =>
    rw [hg] at h
    rcases List.mem_append.1 h with h | h
    · exact (List.mem_filter.1 h).1
    · rw [List.mem_singleton.1 h]; exact List.mem_of_find?_eq_some hg
theorem ld_use {w0 wr : World} {p : Nat} {s : Cs} {n : Nat} {F : Nat → Prop} (h : Ld w0 wr p s n F) (k : Ky) (hn : n < 4611686018427387904) : Calls Try.prog 34 #[.pointer (some ⟨p, 0, none⟩), .agg #[.int .i64 k.d, .string k.nm]] wr fun x w' => x = .returned (.bool (getL s.L k).isSome) ∧ Ldc w0 wr w' p (s.use k) (n + 1) F := by
  obtain ⟨c, h1, h2, h3, h4⟩ := h.ex
  refine (use_p p c s k wr h1 h2 h.nn (by omega)).mono ?_
  rintro x w' ⟨rfl, c', a, hs', hu⟩
  refine ⟨rfl, ldc_of h h4 a hs' (by omega) (fun e he => h.nn e (mem_use he)) ?_⟩
  have := h.len
  have := use_len s k
  omega
theorem mem_evict {s : Cs} {k : Ky} {x : En} (h : x ∈ (s.evict k).L) : x ∈ s.L := by
  unfold Cs.evict at h
  cases hg : getL s.L k with
  | none => rw [hg] at h; exact h
  | some e => rw [hg] at h; exact (List.mem_filter.1 h).1
theorem evict_len (s : Cs) (k : Ky) : (s.evict k).L.length ≤ s.L.length := by
  unfold Cs.evict
  split
  · exact Nat.le_refl _
  · exact List.length_filter_le _ _
theorem ld_evict {w0 wr : World} {p : Nat} {s : Cs} {n : Nat} {F : Nat → Prop} (h : Ld w0 wr p s n F) (k : Ky) : Calls Try.prog 38 #[.pointer (some ⟨p, 0, none⟩), .agg #[.int .i64 k.d, .string k.nm]] wr fun x w' => x = .returned (.bool (getL s.L k).isSome) ∧ Ldc w0 wr w' p (s.evict k) n F := by
  obtain ⟨c, h1, h2, h3, h4⟩ := h.ex
  refine (evict_p p c s k wr h1 h2).mono ?_
  rintro x w' ⟨rfl, c', a, hs', hu⟩
  exact ⟨rfl, ldc_of h h4 a hs' (by omega) (fun e he => h.nn e (mem_evict he)) (Nat.le_trans (evict_len s k) h.len)⟩
theorem cut_sub (ks : List Ky) : ∀ (s : Cs), (s.cut ks).L.Sublist s.L := by
  unfold Cs.cut
  induction ks with
  | nil => exact fun s => List.Sublist.refl _
  | cons k ks ih => exact fun s => (ih (s.cut1 k)).trans List.filter_sublist
theorem ld_cut {w0 wr : World} {p : Nat} {s : Cs} {n : Nat} {F : Nat → Prop} (h : Ld w0 wr p s n F) (v : Value) (ks : List Ky) (hk : RdK wr v ks (fun k => w0.heap.size ≤ k ∧ ¬ F k)) (hl : ks.length ≤ 1000000000000000) : Calls Try.prog 14 #[.pointer (some ⟨p, 0, none⟩), v] wr fun x w' => x = .returned (.tuple #[]) ∧ Ldc w0 wr w' p (s.cut ks) n F := by
  obtain ⟨c, h1, h2, h3, h4⟩ := h.ex
  have hk' : RdK wr v ks (c.blk p) := by
    obtain ⟨a, cap, rfl, hk⟩ := hk
    refine ⟨a, cap, rfl, fun j k hj => ?_⟩
    obtain ⟨g, o, e, q0, q1, hg⟩ := hk j k hj
    exact ⟨g, o, e, q0, q1, fun hb => hg (h4 g hb)⟩
  refine (cut_p p c s v ks wr h1 h2 hk' hl).mono ?_
  rintro x w' ⟨rfl, c', a, hs', hu⟩
  exact ⟨rfl, ldc_of h h4 a hs' (by omega) (fun e he => h.nn e ((cut_sub ks s).subset he)) (Nat.le_trans (cut_sub ks s).length_le h.len)⟩
def Cs.clear : Cs := ⟨[], []⟩
theorem ld_clear {w0 wr : World} {p : Nat} {s : Cs} {n : Nat} {F : Nat → Prop} (h : Ld w0 wr p s n F) : Calls Try.prog 36 #[.pointer (some ⟨p, 0, none⟩)] wr fun x w' => x = .returned (.tuple #[]) ∧ Ldc w0 wr w' p Cs.clear n F := by
  obtain ⟨c, h1, h2, h3, h4⟩ := h.ex
  refine (clear_p p c wr h1).mono ?_
  rintro x w' ⟨rfl, a⟩
  refine ⟨rfl, ldc_of h h4 a ⟨⟨[], by simp, by simp, List.Perm.refl _, rfl⟩, fun d => by simp [Cs.clear]⟩ h3 (fun e he => by cases he) (Nat.zero_le _)⟩
theorem ld_setW {w0 wr : World} {p : Nat} {s : Cs} {n : Nat} {F : Nat → Prop} (h : Ld w0 wr p s n F) (d : Int) : Calls Try.prog 39 #[.pointer (some ⟨p, 0, none⟩), .int .i64 d] wr fun x w' => x = .returned (.tuple #[]) ∧ Ldc w0 wr w' p (s.setW d) n F := by
  obtain ⟨c, h1, h2, h3, h4⟩ := h.ex
  refine (setWhole_p p c d wr h1).mono ?_
  rintro x w' ⟨rfl, a⟩
  refine ⟨rfl, ldc_of h h4 a ⟨h2.rep, fun x => ?_⟩ h3 h.nn h.len⟩
  show x ∈ (s.setW d).W ↔ x ∈ (mput c.wl d ()).map (·.1)
  rw [mem_setW, mem_putW h1.wn, h2.wh]
theorem ld_new (w0 wr : World) (F : Nat → Prop) (hb : Below w0.heap.size w0 wr) (hF : ∀ k, F k → k < wr.heap.size) : Calls Try.prog 30 #[] wr fun x w' => ∃ p, x = .returned (.pointer (some ⟨p, 0, none⟩)) ∧ Ldc w0 wr w' p Cs.clear 0 F := by
  refine (new_p wr).mono ?_
  rintro x w' ⟨p, c, rfl, h1, h2, h3, h4, h5⟩
  exact ⟨p, rfl, ⟨⟨c, h1, h2, by omega, fun k hk => ⟨Nat.le_trans hb.size (h5 k hk), fun e => by have := hF k e; have := h5 k hk; omega⟩⟩, chainB hb h4, fun e he => (by cases he), fun k hk => Nat.lt_of_lt_of_le (hF k hk) h4.size, Nat.zero_le _⟩, fun k hk => h4.block k (hF k hk), h4.size⟩
/-- calls that only read -/
theorem ld_get {w0 wr : World} {p : Nat} {s : Cs} {n : Nat} {F : Nat → Prop} (h : Ld w0 wr p s n F) (k : Ky) : Calls Try.prog 42 #[.pointer (some ⟨p, 0, none⟩), .agg #[.int .i64 k.d, .string k.nm]] wr fun x w' => x = .returned (.tuple #[((getL s.L k).getD zeroEn).agg, .bool (getL s.L k).isSome]) ∧ Below wr.heap.size wr w' := by
  obtain ⟨c, h1, h2, h3, h4⟩ := h.ex
  exact get_s p c s k wr h1 h2
theorem ld_whole {w0 wr : World} {p : Nat} {s : Cs} {n : Nat} {F : Nat → Prop} (h : Ld w0 wr p s n F) (d : Int) : Calls Try.prog 45 #[.pointer (some ⟨p, 0, none⟩), .int .i64 d] wr fun x w' => x = .returned (.bool (decide (d ∈ s.W))) ∧ Below wr.heap.size wr w' := by
  obtain ⟨c, h1, h2, h3, h4⟩ := h.ex
  refine (whole_p p c d wr h1).mono ?_
  rintro x w' ⟨rfl, hb⟩
  exact ⟨by rw [h2.whole], hb⟩
theorem ld_leaf {w0 wr : World} {p : Nat} {s : Cs} {n : Nat} {F : Nat → Prop} (h : Ld w0 wr p s n F) (k : Ky) : Calls Try.prog 24 #[.pointer (some ⟨p, 0, none⟩), .agg #[.int .i64 k.d, .string k.nm]] wr fun x w' => x = .returned (.bool (leafB s.L k)) ∧ Below wr.heap.size wr w' := by
  obtain ⟨c, h1, h2, h3, h4⟩ := h.ex
  exact leaf_p p c s k wr h1 h2
theorem ld_len {w0 wr : World} {p : Nat} {s : Cs} {n : Nat} {F : Nat → Prop} (h : Ld w0 wr p s n F) (hn : n ≤ 1000000000000000) : Calls Try.prog 27 #[.pointer (some ⟨p, 0, none⟩)] wr fun x w' => x = .returned (.int .i64 s.L.length) ∧ Below wr.heap.size wr w' := by
  obtain ⟨c, h1, h2, h3, h4⟩ := h.ex
  exact len_p p c s wr h1 h2 (Nat.le_trans h.len hn)
theorem ld_neg {w0 wr : World} {p : Nat} {s : Cs} {n : Nat} {F : Nat → Prop} (h : Ld w0 wr p s n F) (hn : n ≤ 1000000000000000) : Calls Try.prog 28 #[.pointer (some ⟨p, 0, none⟩)] wr fun x w' => x = .returned (.int .i64 (negN s.L)) ∧ Below wr.heap.size wr w' := by
  obtain ⟨c, h1, h2, h3, h4⟩ := h.ex
  exact negatives_p p c s wr h1 h2 (Nat.le_trans h.len hn)
theorem ld_entries {w0 wr : World} {p : Nat} {s : Cs} {n : Nat} {F : Nat → Prop} (h : Ld w0 wr p s n F) (hn : n ≤ 1400000000000) : Calls Try.prog 16 #[.pointer (some ⟨p, 0, none⟩)] wr fun x w' => ∃ v, x = .returned v ∧ Row7 w' wr.heap.size v s.L ∧ Below wr.heap.size wr w' := by
  obtain ⟨c, h1, h2, h3, h4⟩ := h.ex
  exact entries_p p c s wr h1 h2 (Nat.le_trans h.len hn)
theorem ld_names {w0 wr : World} {p : Nat} {s : Cs} {n : Nat} {F : Nat → Prop} (h : Ld w0 wr p s n F) (d : Int) (hn : n ≤ 1400000000000) : Calls Try.prog 17 #[.pointer (some ⟨p, 0, none⟩), .int .i64 d] wr fun x w' => ∃ v m, x = .returned v ∧ Row7 w' wr.heap.size v m ∧ NamesR s.L d m ∧ Below wr.heap.size wr w' := by
  obtain ⟨c, h1, h2, h3, h4⟩ := h.ex
  exact names_p p c s d wr h1 h2 (Nat.le_trans h.len hn)
theorem Ld.keys {w0 wr : World} {p : Nat} {s : Cs} {n : Nat} {F : Nat → Prop} (h : Ld w0 wr p s n F) : KeysOk s.L := by
  obtain ⟨c, h1, h2, h3, h4⟩ := h.ex
  exact h2.keys h1.ok
end
section
open Go.RowKit
attribute [local go_sem ↓ high] loadEn storeEn
attribute [local go_sem high] neqE guardE

def eA : En := ⟨1, ⟨#[97]⟩, false, 2, 1, 0, ⟨#[]⟩⟩
def kA : Ky := ⟨1, ⟨#[97]⟩⟩
theorem wk1 : putS Cs.clear eA = ⟨[eA], []⟩ := by
  have : ¬ eA.nm = nob := by decide
  unfold putS
  rw [if_neg this]; rfl
theorem wk2 : getL [eA] kA = some eA := rfl
theorem wk3 : (⟨[eA], []⟩ : Cs).setW 1 = ⟨[eA], [1]⟩ := rfl
theorem wk4 : (⟨[eA], [1]⟩ : Cs).cut [kA] = ⟨[], []⟩ := rfl
abbrev aV : Value := .agg #[.int .i64 1, .string ⟨#[97]⟩, .bool false, .int .i64 2, .int .i64 1, .int .i64 0, .string ⟨#[]⟩]
abbrev aC : Obj := .cells #[.int .i64 1, .string ⟨#[97]⟩, .bool false, .int .i64 2, .int .i64 1, .int .i64 0, .string ⟨#[]⟩] 42 (0, 0)
theorem Ld.box {w0 wr : World} {p : Nat} {s : Cs} {n : Nat} {F : Nat → Prop} (h : Ld w0 wr p s n F) (o : Obj) : Ld w0 (wr.alloc o) p s n (fun k => F k ∨ k = wr.heap.size) := (h.on (below_alloc wr o)).mono (fun k hk => by
  rcases hk with hk | hk
  · exact .inl hk
  · exact .inr ⟨by omega, by rw [hk]; simp⟩) (Nat.le_refl _)
theorem aw_put {w w1 : World} {p : Nat} (h : Ld w w1 p Cs.clear 0 (fun _ => False)) : Calls Try.prog 32 #[.pointer (some ⟨p, 0, none⟩), aV] (w1.alloc aC) fun x w' => x = .returned (.int .i64 0) ∧ Ld w w' p ⟨[eA], []⟩ 1 (fun k => k = w1.heap.size) ∧ w'.heap[w1.heap.size]? = some aC := by
  refine (ld_put ((h.box aC).mono (G := fun k => k = w1.heap.size) (fun k hk => .inr hk) (Nat.le_refl _)) eA (by omega)).mono ?_
  rintro x w' ⟨rfl, hl⟩
  rw [wk1] at hl
  exact ⟨rfl, hl.ld, (hl.kept _ rfl).trans (heap_new _ _)⟩
theorem aw_set {w w5 : World} {p b : Nat} (h : Ld w w5 p ⟨[eA], []⟩ 1 (fun k => k = b)) (hb : w5.heap[b]? = some aC) : Calls Try.prog 39 #[.pointer (some ⟨p, 0, none⟩), .int .i64 1] (w5.alloc aC) fun x w' => x = .returned (.tuple #[]) ∧ Ld w w' p ⟨[eA], [1]⟩ 1 (fun k => k = b ∨ k = w5.heap.size) ∧ w'.heap[b]? = some aC ∧ w'.heap[w5.heap.size]? = some aC := by
  refine (ld_setW (h.box aC) 1).mono ?_
  rintro x w' ⟨rfl, hl⟩
  rw [wk3] at hl
  exact ⟨rfl, hl.ld, (hl.kept _ (.inl rfl)).trans (hkeep hb (below_alloc _ _)), (hl.kept _ (.inr rfl)).trans (heap_new _ _)⟩
theorem aw_cut {w w8 : World} {p b c : Nat} (h : Ld w w8 p ⟨[eA], [1]⟩ 1 (fun k => k = b ∨ k = c)) (hb : w8.heap[b]? = some aC) : Calls Try.prog 14 #[.pointer (some ⟨p, 0, none⟩), .slice (some ⟨w8.heap.size, 0, none⟩) 1 1] (w8.alloc (.cells #[.int .i64 1, .string ⟨#[97]⟩] 34)) fun x w' => x = .returned (.tuple #[]) ∧ Ld w w' p ⟨[], []⟩ 1 (fun _ => False) ∧ w'.heap[b]? = some aC := by
  have hh := heap_new w8 (.cells #[.int .i64 1, .string ⟨#[97]⟩] 34)
  refine (ld_cut (h.box _) (.slice (some ⟨w8.heap.size, 0, none⟩) 1 1) [kA] ?_ (by simp)).mono ?_
  · refine ⟨_, _, rfl, fun j k hj => ?_⟩
    have hj0 : j = 0 := by have := (List.getElem?_eq_some_iff.1 hj).1; simp at this; exact this
    subst hj0
    obtain rfl : kA = k := by simpa using hj
    exact ⟨w8.heap.size, 0, rfl, by rw [cell_of hh]; rfl, by rw [cell_of hh]; rfl, fun e => e.2 (.inr rfl)⟩
  · rintro x w' ⟨rfl, hl⟩
    rw [wk4] at hl
    exact ⟨rfl, hl.ld.mono (fun _ h => h.elim) (Nat.le_refl _), (hl.kept _ (.inl (.inl rfl))).trans (hkeep hb (below_alloc _ _))⟩
theorem aw_get {w wr : World} {p : Nat} {W : List Int} {n : Nat} {F : Nat → Prop} (h : Ld w wr p ⟨[eA], W⟩ n F) : Calls Try.prog 42 #[.pointer (some ⟨p, 0, none⟩), .agg #[.int .i64 1, .string ⟨#[97]⟩]] wr fun x w' => x = .returned (.tuple #[aV, .bool true]) ∧ Below wr.heap.size wr w' := ld_get h kA
set_option maxHeartbeats 4000000 in
theorem awake_p (w : World) : Calls Try.prog 12 #[] w fun x w' => x = .returned (.bool true) ∧ Below w.heap.size w w' := by
  have bxA : ∀ w : World, (enSt (.pointer (some ⟨w.heap.size, 0, none⟩)) aV).run Try.prog (w.alloc (.cells #[.int .i64 0, .string ⟨#[]⟩, .bool false, .int .i64 0, .int .i64 0, .int .i64 0, .string ⟨#[]⟩] 42)) = .ok () (w.alloc aC) := fun w => box7 w eA
  have ldA : ∀ w : World, (enLd (.pointer (some ⟨w.heap.size, 0, none⟩))).run Try.prog (w.alloc aC) = .ok aV (w.alloc aC) := fun w => ld7 w eA 42
  have HLd : Hid (∀ (W : World) b, W.heap[b]? = some aC → (enLd (.pointer (some ⟨b, 0, none⟩))).run Try.prog W = .ok aV W ∧ W.cell? ⟨b, 0, none⟩ = some (.int .i64 1) ∧ W.cell? ⟨b, 1, none⟩ = some (.string ⟨#[97]⟩)) := fun W b hb => ⟨enLd_at (e := eA) (cells7_of hb), by rw [cell_of hb]; rfl, by rw [cell_of hb]; rfl⟩
  have hq : eqEn ⟨1, ⟨#[97]⟩, false, 2, 1, 0, ⟨#[]⟩⟩ ⟨1, ⟨#[97]⟩, false, 2, 1, 0, ⟨#[]⟩⟩ = true := (eqEn_iff _ _).2 rfl
  go_enter Try.func12, Try.ntmps12
  go_wp2_with (first
    | (have hz := H10; go_at_call 27; refine (ld_len (H10.out.1.on' HB12.out) (by omega)).mono ?_; rintro x w13 ⟨rfl, hb⟩; have HB13 : Hid (Below w10.heap.size w10 w13) := chainB HB12.out hb; clear hb hz)
    | (have hz := H10; go_at_call 45; refine (ld_whole (H10.out.1.on' HB11.out) 1).mono ?_; rintro x w12 ⟨rfl, hb⟩; have HB12 : Hid (Below w10.heap.size w10 w12) := chainB HB11.out hb; clear hb hz)
    | (have hz := H10; go_at_call 42; refine (ld_get H10.out.1 kA).mono ?_; rintro x w11 ⟨rfl, hb⟩; have HB11 : Hid (Below w10.heap.size w10 w11) := hb; clear hb hz)
    | (go_at_call 14; refine (aw_cut H8.out.1 H8.out.2.1).mono ?_; rintro x w10 ⟨rfl, hl, hb⟩; have H10 : Hid (Ld w w10 p ⟨[], []⟩ 1 (fun _ => False) ∧ w10.heap[w1.heap.size]? = some aC) := ⟨hl, hb⟩; obtain ⟨d1, d2, d3⟩ := HLd.out w10 _ hb; clear hb hl)
    | (have hz := H7; go_at_call 45; refine (ld_whole H7.out.1 1).mono ?_; rintro x w8 ⟨rfl, hb⟩; have H8 : Hid (Ld w w8 p ⟨[eA], [1]⟩ 1 (fun k => k = w1.heap.size ∨ k = w5.heap.size) ∧ w8.heap[w1.heap.size]? = some aC ∧ w8.heap[w5.heap.size]? = some aC) := ⟨H7.out.1.on' hb, hkeep H7.out.2.1 hb, hkeep H7.out.2.2 hb⟩; obtain ⟨b1, b2, b3⟩ := HLd.out w8 _ H8.out.2.1; clear hb hz)
    | (go_at_call 39; refine (aw_set H5.out.1 H5.out.2).mono ?_; rintro x w7 ⟨rfl, hl, hb, hc⟩; have H7 : Hid (Ld w w7 p ⟨[eA], [1]⟩ 1 (fun k => k = w1.heap.size ∨ k = w5.heap.size) ∧ w7.heap[w1.heap.size]? = some aC ∧ w7.heap[w5.heap.size]? = some aC) := ⟨hl, hb, hc⟩; obtain ⟨a1, a2, a3⟩ := HLd.out w7 _ hb; obtain ⟨a4, a5, a6⟩ := HLd.out w7 _ hc; clear hl hb hc)
    | (have hz := H4; go_at_call 42; refine (aw_get H4.out.1).mono ?_; rintro x w5 ⟨rfl, hb⟩; have H5 : Hid (Ld w w5 p ⟨[eA], []⟩ 1 (fun k => k = w1.heap.size) ∧ w5.heap[w1.heap.size]? = some aC) := ⟨H4.out.1.on' hb, hkeep H4.out.2 hb⟩; clear hb hz)
    | (have hz := H3; go_at_call 27; refine (ld_len H3.out.1 (by omega)).mono ?_; rintro x w4 ⟨rfl, hb⟩; have H4 : Hid (Ld w w4 p ⟨[eA], []⟩ 1 (fun k => k = w1.heap.size) ∧ w4.heap[w1.heap.size]? = some aC) := ⟨H3.out.1.on' hb, hkeep H3.out.2 hb⟩; obtain ⟨c1, c2, c3⟩ := HLd.out w4 _ H4.out.2; clear hb hz)
    | (go_at_call 32; refine (aw_put H1.out).mono ?_; rintro x w3 ⟨rfl, hl, hb⟩; have H3 : Hid (Ld w w3 p ⟨[eA], []⟩ 1 (fun k => k = w1.heap.size) ∧ w3.heap[w1.heap.size]? = some aC) := ⟨hl, hb⟩; clear hl hb)
    | (go_at_call 30; refine (ld_new w w (fun _ => False) (Below.refl _ _) (fun _ h => h.elim)).mono ?_; rintro x w1 ⟨p, rfl, hl⟩; have H1 : Hid (Ld w w1 p Cs.clear 0 (fun _ => False)) := hl.ld; clear hl))
  go_ret
  exact ⟨rfl, chainB H10.out.1.below HB13.out⟩
end
end Go.Proofs.Ytggjnhmmdomfjaa
