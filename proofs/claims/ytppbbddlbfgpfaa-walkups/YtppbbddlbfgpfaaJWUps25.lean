/- A law's cache: what it says, and what the law keeps beside it; one line for each call. -/
import Derived.Test.YtppbbddlbfgpfaaJWUps24
import Derived.Test.YtppbbddlbfgpfaaJWUps06
import Derived.Test.YtppbbddlbfgpfaaJWUps09
import Derived.Test.YtppbbddlbfgpfaaJWUps19
import Derived.Test.YtppbbddlbfgpfaaJWUps23
import Derived.MapKept
namespace Go.Proofs.Ytppbbddlbfgpfaa
section
open Go.RowKit

/-- a law's cache; n: no more uses, no more entries; F: blocks that the law keeps -/
structure Ld (w0 wr : World) (p : Nat) (s : Cs) (n : Nat) (F : Nat → Prop) : Prop where
  ex : ∃ c, IsC wr p c ∧ Says c s ∧ c.uses ≤ n ∧ ∀ k, c.blk p k → w0.heap.size ≤ k ∧ ¬ F k
  below : Below w0.heap.size w0 wr
  nn : ∀ e ∈ s.L, e.nm ≠ nob
  fl : ∀ k, F k → k < wr.heap.size
  len : s.L.length ≤ n
theorem Ld.mono {w0 wr : World} {p : Nat} {s : Cs} {n m : Nat} {F G : Nat → Prop} (h : Ld w0 wr p s n F) (hG : ∀ k, G k → F k) (hm : n ≤ m) : Ld w0 wr p s m G := by
  obtain ⟨c, h1, h2, h3, h4⟩ := h.ex
  exact ⟨⟨c, h1, h2, Nat.le_trans h3 hm, fun k hk => ⟨(h4 k hk).1, fun e => (h4 k hk).2 (hG k e)⟩⟩, h.below, h.nn, fun k hk => h.fl k (hG k hk), Nat.le_trans h.len hm⟩
/-- what is new is the law's -/
theorem Ld.on {w0 wr w' : World} {p : Nat} {s : Cs} {n : Nat} {F : Nat → Prop} (h : Ld w0 wr p s n F) (hb : Below wr.heap.size wr w') : Ld w0 w' p s n (fun k => F k ∨ wr.heap.size ≤ k ∧ k < w'.heap.size) := by
  obtain ⟨c, h1, h2, h3, h4⟩ := h.ex
  refine ⟨⟨c, h1.below hb, h2, h3, fun k hk => ⟨(h4 k hk).1, fun e => ?_⟩⟩, chainB h.below hb, h.nn, fun k hk => ?_, h.len⟩
  · rcases e with e | e
    · exact (h4 k hk).2 e
    · have := h1.lt hk; omega
  · rcases hk with hk | hk
    · exact Nat.lt_of_lt_of_le (h.fl k hk) hb.size
    · exact hk.2
theorem Ld.on' {w0 wr w' : World} {p : Nat} {s : Cs} {n : Nat} {F : Nat → Prop} (h : Ld w0 wr p s n F) (hb : Below wr.heap.size wr w') : Ld w0 w' p s n F := (h.on hb).mono (fun _ hk => .inl hk) (Nat.le_refl _)
/-- the law writes blocks of its own -/
theorem Ld.own {w0 wr w' : World} {p : Nat} {s : Cs} {n : Nat} {F : Nat → Prop} (h : Ld w0 wr p s n F) (hO : Only F wr w') (hF : ∀ k, F k → w0.heap.size ≤ k) : Ld w0 w' p s n (fun k => F k ∨ wr.heap.size ≤ k ∧ k < w'.heap.size) := by
  obtain ⟨c, h1, h2, h3, h4⟩ := h.ex
  refine ⟨⟨c, h1.moved fun k hk => hO.block k (h1.lt hk) (h4 k hk).2, h2, h3, fun k hk => ⟨(h4 k hk).1, fun e => ?_⟩⟩, hO.below h.below h.below.size hF, h.nn, fun k hk => ?_, h.len⟩
  · rcases e with e | e
    · exact (h4 k hk).2 e
    · have := h1.lt hk; omega
  · rcases hk with hk | hk
    · exact Nat.lt_of_lt_of_le (h.fl k hk) hO.size
    · exact hk.2
/-- behind a call that may change it -/
structure Ldc (w0 wr w' : World) (p : Nat) (s : Cs) (n : Nat) (F : Nat → Prop) : Prop where
  ld : Ld w0 w' p s n F
  kept : ∀ k, F k → w'.heap[k]? = wr.heap[k]?
  size : wr.heap.size ≤ w'.heap.size
theorem ldc_of {w0 wr w' : World} {p : Nat} {s s' : Cs} {n n' : Nat} {F : Nat → Prop} (h : Ld w0 wr p s n F) {c c' : Pc} (h4 : ∀ k, c.blk p k → w0.heap.size ≤ k ∧ ¬ F k) (a : Aft wr w' p c c') (hs : Says c' s') (hu : c'.uses ≤ n') (hn : ∀ e ∈ s'.L, e.nm ≠ nob) (hl : s'.L.length ≤ n') : Ldc w0 wr w' p s' n' F := by
  refine ⟨⟨⟨c', a.is, hs, hu, fun k hk => ?_⟩, a.only.below h.below h.below.size (fun k hk => (h4 k hk).1), hn, fun k hk => Nat.lt_of_lt_of_le (h.fl k hk) a.only.size, hl⟩, fun k hk => a.only.block k (h.fl k hk) (fun e => (h4 k e).2 hk), a.only.size⟩
  rcases a.nblk k hk with hk | hk
  · exact h4 k hk
  · exact ⟨Nat.le_trans h.below.size hk, fun e => by have := h.fl k e; omega⟩
theorem put_len (s : Cs) (e : En) : (s.put e).L.length ≤ s.L.length + 1 := by
  unfold Cs.put outL
  simp only [List.length_append, List.length_cons, List.length_nil]
  have := List.length_filter_le (fun x => !hasK e.key x) s.L
  omega
theorem mem_put {s : Cs} {e x : En} (h : x ∈ (s.put e).L) : x ∈ s.L ∨ x = e := by
  unfold Cs.put outL at h
  rcases List.mem_append.1 h with h | h
  · exact .inl (List.mem_filter.1 h).1
  · exact .inr (List.mem_singleton.1 h)
def putS (s : Cs) (e : En) : Cs := if e.nm = nob then s else s.put e
theorem ld_put {w0 wr : World} {p : Nat} {s : Cs} {n : Nat} {F : Nat → Prop} (h : Ld w0 wr p s n F) (e : En) (hn : n < 4611686018427387904) : Calls Try.prog 14 #[.pointer (some ⟨p, 0, none⟩), e.agg] wr fun x w' => x = .returned (.int .i64 (if e.nm = nob then 1 else 0)) ∧ Ldc w0 wr w' p (putS s e) (n + 1) F := by
  obtain ⟨c, h1, h2, h3, h4⟩ := h.ex
  refine (putK_p p c s e wr h1 h2 (by omega)).mono ?_
  rintro x w' ⟨rfl, c', a, hs', hu⟩
  refine ⟨rfl, ldc_of h h4 a hs' (by omega) ?_ ?_⟩
  · unfold putS
    split
    · exact h.nn
    · rename_i he
      intro x hx
      rcases mem_put hx with hx | rfl
      · exact h.nn x hx
      · exact he
  · have := h.len
    unfold putS
    split
    · omega
    · have := put_len s e; omega
theorem use_len (s : Cs) (k : Ky) : (s.use k).L.length ≤ s.L.length + 1 := by
  unfold Cs.use
  split
  · simp only [List.length_append, List.length_cons, List.length_nil]
    have := List.length_filter_le (fun x => !hasK k x) s.L
    unfold outL
    omega
  · omega
theorem mem_use {s : Cs} {k : Ky} {x : En} (h : x ∈ (s.use k).L) : x ∈ s.L := by
  unfold Cs.use at h
  cases hg : getL s.L k with
  | none => rw [hg] at h; exact h
  | some e =>
    rw [hg] at h
    rcases List.mem_append.1 h with h | h
    · exact (List.mem_filter.1 h).1
    · rw [List.mem_singleton.1 h]; exact List.mem_of_find?_eq_some hg
theorem mem_evict {s : Cs} {k : Ky} {x : En} (h : x ∈ (s.evict k).L) : x ∈ s.L := by
  unfold Cs.evict at h
  cases hg : getL s.L k with
  | none => rw [hg] at h; exact h
  | some e => rw [hg] at h; exact (List.mem_filter.1 h).1
theorem evict_len (s : Cs) (k : Ky) : (s.evict k).L.length ≤ s.L.length := by
  unfold Cs.evict
  split
  · exact Nat.le_refl _
  · exact List.length_filter_le _ _
theorem cut_sub (ks : List Ky) : ∀ (s : Cs), (s.cut ks).L.Sublist s.L := by
  unfold Cs.cut
  induction ks with
  | nil => exact fun s => List.Sublist.refl _
  | cons k ks ih => exact fun s => (ih (s.cut1 k)).trans List.filter_sublist
def Cs.clear : Cs := ⟨[], []⟩
theorem ld_setW {w0 wr : World} {p : Nat} {s : Cs} {n : Nat} {F : Nat → Prop} (h : Ld w0 wr p s n F) (d : Int) : Calls Try.prog 25 #[.pointer (some ⟨p, 0, none⟩), .int .i64 d] wr fun x w' => x = .returned (.tuple #[]) ∧ Ldc w0 wr w' p (s.setW d) n F := by
  obtain ⟨c, h1, h2, h3, h4⟩ := h.ex
  refine (setWhole_p p c d wr h1).mono ?_
  rintro x w' ⟨rfl, a⟩
  refine ⟨rfl, ldc_of h h4 a ⟨h2.rep, fun x => ?_⟩ h3 h.nn h.len⟩
  show x ∈ (s.setW d).W ↔ x ∈ (mput c.wl d ()).map (·.1)
  rw [mem_setW, mem_putW h1.wn, h2.wh]
theorem ld_new (w0 wr : World) (F : Nat → Prop) (hb : Below w0.heap.size w0 wr) (hF : ∀ k, F k → k < wr.heap.size) : Calls Try.prog 12 #[] wr fun x w' => ∃ p, x = .returned (.pointer (some ⟨p, 0, none⟩)) ∧ Ldc w0 wr w' p Cs.clear 0 F := by
  refine (newK_p wr).mono ?_
  rintro x w' ⟨p, c, rfl, h1, h2, h3, h4, h5⟩
  exact ⟨p, rfl, ⟨⟨c, h1, h2, by omega, fun k hk => ⟨Nat.le_trans hb.size (h5 k hk), fun e => by have := hF k e; have := h5 k hk; omega⟩⟩, chainB hb h4, fun e he => (by cases he), fun k hk => Nat.lt_of_lt_of_le (hF k hk) h4.size, Nat.zero_le _⟩, fun k hk => h4.block k (hF k hk), h4.size⟩
/-- calls that only read -/
theorem ld_get {w0 wr : World} {p : Nat} {s : Cs} {n : Nat} {F : Nat → Prop} (h : Ld w0 wr p s n F) (k : Ky) : Calls Try.prog 114 #[.pointer (some ⟨p, 0, none⟩), .agg #[.int .i64 k.d, .string k.nm]] wr fun x w' => x = .returned (.tuple #[((getL s.L k).getD zeroEn).agg, .bool (getL s.L k).isSome]) ∧ Below wr.heap.size wr w' := by
  obtain ⟨c, h1, h2, h3, h4⟩ := h.ex
  exact get_s p c s k wr h1 h2
theorem ld_whole {w0 wr : World} {p : Nat} {s : Cs} {n : Nat} {F : Nat → Prop} (h : Ld w0 wr p s n F) (d : Int) : Calls Try.prog 115 #[.pointer (some ⟨p, 0, none⟩), .int .i64 d] wr fun x w' => x = .returned (.bool (decide (d ∈ s.W))) ∧ Below wr.heap.size wr w' := by
  obtain ⟨c, h1, h2, h3, h4⟩ := h.ex
  refine (whole_p p c d wr h1).mono ?_
  rintro x w' ⟨rfl, hb⟩
  exact ⟨by rw [h2.whole], hb⟩
theorem ld_names {w0 wr : World} {p : Nat} {s : Cs} {n : Nat} {F : Nat → Prop} (h : Ld w0 wr p s n F) (d : Int) (hn : n ≤ 1400000000000) : Calls Try.prog 16 #[.pointer (some ⟨p, 0, none⟩), .int .i64 d] wr fun x w' => ∃ v m, x = .returned v ∧ Row7 w' wr.heap.size v m ∧ NamesR s.L d m ∧ Below wr.heap.size wr w' := by
  obtain ⟨c, h1, h2, h3, h4⟩ := h.ex
  exact names_p p c s d wr h1 h2 (Nat.le_trans h.len hn)
theorem Ld.keys {w0 wr : World} {p : Nat} {s : Cs} {n : Nat} {F : Nat → Prop} (h : Ld w0 wr p s n F) : KeysOk s.L := by
  obtain ⟨c, h1, h2, h3, h4⟩ := h.ex
  exact h2.keys h1.ok
theorem Ld.box {w0 wr : World} {p : Nat} {s : Cs} {n : Nat} {F : Nat → Prop} (h : Ld w0 wr p s n F) (o : Obj) : Ld w0 (wr.alloc o) p s n (fun k => F k ∨ k = wr.heap.size) := (h.on (below_alloc wr o)).mono (fun k hk => by
  rcases hk with hk | hk
  · exact .inl hk
  · exact .inr ⟨by omega, by rw [hk]; simp⟩) (Nat.le_refl _)
end
section
open Go.RowKit

/-- what stands in the cache behind so many entries -/
def fillS (es : List En) : Cs := es.foldl (fun s e => (putS s e).setW e.id) ⟨[], [1]⟩
theorem fillS_snoc (es : List En) (e : En) : fillS (es ++ [e]) = (putS (fillS es) e).setW e.id := by unfold fillS; rw [List.foldl_append]; rfl
theorem chk_nm {nm : ByteArray} (h : chkE nm = 0) : nm ≠ nob := by
  rintro rfl
  have : chkE nob = 10 := by kernel_rfl
  omega
theorem chk_dot1 {nm : ByteArray} (h : chkE nm = 0) : nm ≠ dot1 := by
  rintro rfl
  have : chkE dot1 = 10 := by kernel_rfl
  omega
theorem chk_dot2 {nm : ByteArray} (h : chkE nm = 0) : nm ≠ dot2 := by
  rintro rfl
  have : chkE dot2 = 10 := by kernel_rfl
  omega
/-- what stands there behind so many entries -/
def SpF (pre : List En) (s : Cs) : Prop := s.L = pre ∧ ∀ d, d ∈ s.W ↔ d = 1 ∨ ∃ e ∈ pre, e.id = d
theorem SpF.step {pre : List En} {s : Cs} (h : SpF pre s) (e : En) (hne : e.nm ≠ nob) (ha : ∀ x ∈ pre, ¬ (x.d = e.d ∧ x.nm = e.nm)) : SpF (pre ++ [e]) ((putS s e).setW e.id) := by
  obtain ⟨i1, i2⟩ := h
  have hp : putS s e = ⟨pre ++ [e], s.W⟩ := by
    unfold putS
    rw [if_neg hne]
    unfold Cs.put
    rw [i1]
    have : outL pre e.key = pre := List.filter_eq_self.2 fun x hx => by
      have := ha x hx
      rw [hasK_no.2 this]; rfl
    rw [this]
  refine ⟨by rw [hp]; rfl, fun d => ?_⟩
  rw [mem_setW, hp]
  show d ∈ s.W ∨ d = e.id ↔ _
  rw [i2]
  simp only [List.mem_append, List.mem_singleton]
  constructor
  · rintro ((h | ⟨x, hx, he⟩) | h)
    · exact .inl h
    · exact .inr ⟨x, .inl hx, he⟩
    · exact .inr ⟨e, .inr rfl, h.symm⟩
  · rintro (h | ⟨x, hx | rfl, he⟩)
    · exact .inl (.inl h)
    · exact .inl (.inr ⟨x, hx, he⟩)
    · exact .inr he.symm
theorem SpF.fold : ∀ (es pre : List En) (s : Cs), SpF pre s → (∀ e ∈ es, e.nm ≠ nob) → Apart (pre ++ es) → SpF (pre ++ es) (es.foldl (fun s e => (putS s e).setW e.id) s)
  | [], pre, s, h, _, _ => by rw [List.append_nil]; exact h
  | e :: es, pre, s, h, hn, ha => by
    have hsp : pre ++ e :: es = (pre ++ [e]) ++ es := by simp
    rw [hsp]
    have ha' := ha
    unfold Apart at ha
    rw [List.pairwise_append] at ha
    exact SpF.fold es (pre ++ [e]) _ (h.step e (hn e (by simp)) fun x hx => ha.2.2 x hx e (by simp)) (fun x hx => hn x (List.mem_cons_of_mem _ hx)) (by rw [← hsp]; exact ha')
/-- entries with unlike keys are put one behind the other -/
theorem fillS_is (es : List En) (hn : ∀ e ∈ es, e.nm ≠ nob) (ha : Apart es) : (fillS es).L = es ∧ ∀ d, d ∈ (fillS es).W ↔ d = 1 ∨ ∃ e ∈ es, e.id = d :=
  SpF.fold es [] ⟨[], [1]⟩ ⟨rfl, fun d => by simp⟩ hn ha
/-- is a directory's id one of the tree's -/
def Ino (es : List En) (d : Int) : Prop := d = 1 ∨ ∃ e ∈ es, e.id = d
theorem wf_names {es : List En} {next : Int} (h : WF Mn es next) : ∀ e ∈ es, e.nm ≠ nob := fun e he => chk_nm (h.chk e he)
/-- what is known of a key, where a whole tree is cached -/
theorem knC_fill {es : List En} {next : Int} (h : WF Mn es next) {d : Int} (hd : Ino es d) (nm : ByteArray) : knC (fillS es) ⟨d, nm⟩ = some (nowE es d nm) := by
  obtain ⟨i1, i2⟩ := fillS_is es (wf_names h) h.rises.apart
  unfold knC
  rw [i1, nowE_at]
  cases hg : getL es ⟨d, nm⟩ with
  | some e =>
    have hk : KeysOk es := h.rises.apart
    have := hk.get.1 hg
    rw [(atE_iff h.keyed d nm e).2 this]
  | none =>
    have := getL_none.1 hg
    rw [(atE_none_iff d nm).2 this]
    simp only
    rw [if_pos ((i2 d).2 hd)]
    rfl
theorem nowE_cases {es : List En} {next : Int} (h : WF Mn es next) (d : Int) (nm : ByteArray) : (nowE es d nm = negK ⟨d, nm⟩ ∧ ∀ e ∈ es, ¬ (e.d = d ∧ e.nm = nm)) ∨ ∃ e ∈ es, e.d = d ∧ e.nm = nm ∧ nowE es d nm = e ∧ e.neg = false := by
  rw [nowE_at]
  cases hq : atE es d nm with
  | none => exact .inl ⟨rfl, (atE_none_iff d nm).1 hq⟩
  | some e =>
    obtain ⟨h1, h2, h3⟩ := (atE_iff h.keyed d nm e).1 hq
    exact .inr ⟨e, h1, h2, h3, rfl, h.neg e h1⟩
/-- a way in a tree: the root, and nodes of its entries -/
def NdT (es : List En) (n : Nd) : Prop := n = rootN ∨ ∃ e ∈ es, e.nd = n
def WayT (es : List En) (s : Ws) : Prop := ∀ n ∈ s.way, NdT es n
theorem NdT.ino {es : List En} {n : Nd} (h : NdT es n) : Ino es n.id := by
  rcases h with rfl | ⟨e, he, rfl⟩
  · exact .inl rfl
  · exact .inr ⟨e, he, rfl⟩
theorem here_mem {s : Ws} (h : s.way ≠ []) : s.here ∈ s.way := by
  unfold Ws.here
  rw [List.getLast?_eq_some_getLast h]
  exact List.getLast_mem h
theorem WayT.here {es : List En} {s : Ws} (h : WayT es s) : NdT es s.here := by
  by_cases hn : s.way = []
  · left; unfold Ws.here; rw [hn]; rfl
  · exact h _ (here_mem hn)
theorem WayT.up {es : List En} {s : Ws} (h : WayT es s) : WayT es s.up := by
  intro n hn
  unfold Ws.up at hn
  simp only at hn
  split at hn
  · exact h n (List.dropLast_subset _ hn)
  · exact h n hn
theorem WayT.go {es : List En} {s : Ws} (h : WayT es s) {n : Nd} (hn : NdT es n) : WayT es (s.go n) := by
  intro m hm
  unfold Ws.go at hm
  rcases List.mem_append.1 hm with hm | hm
  · exact h m hm
  · rw [List.mem_singleton.1 hm]; exact hn
theorem WayT.use {es : List En} {s : Ws} (h : WayT es s) (k : Ky) : WayT es (s.use k) := h
theorem WayT.met {es : List En} {s : Ws} (h : WayT es s) (tg : ByteArray) (last : Bool) : WayT es (s.met tg last) := by
  intro n hn
  unfold Ws.met at hn
  simp only at hn
  split at hn
  · rw [List.mem_singleton.1 hn]; exact .inl rfl
  · exact h n hn
theorem WayT.start (es : List En) (dir : Bool) : WayT es (startW dir) := by
  intro n hn
  unfold startW at hn
  rw [List.mem_singleton.1 hn]; exact .inl rfl
theorem kn_here {es : List En} {next : Int} (h : WF Mn es next) {s : Ws} (hw : WayT es s) (x : ByteArray) : knC (fillS es) ⟨s.here.id, x⟩ = some (nowE es s.here.id x) := knC_fill h hw.here.ino x
/-- over a whole tree nothing is wanted -/
theorem goI_full {es : List En} {next : Int} (h : WF Mn es next) (fol : Bool) (m : ByteArray → List ByteArray → Ws → Ou) (hm : ∀ tg rest s, WayT es s → (m tg rest s).need = false) : ∀ (steps : List ByteArray) (s : Ws), WayT es s → (goI (knC (fillS es)) fol m steps s).need = false
  | [], s, _ => by
    rw [goI]; unfold Ws.fin
    split <;> rfl
  | x :: rest, s, hw => by
    rw [goI]
    split
    · rfl
    split
    · exact goI_full h fol m hm rest s hw
    split
    · exact goI_full h fol m hm rest s.up hw.up
    rw [kn_here h hw]
    simp only
    split
    · rfl
    rename_i hneg
    have hn : NdT es (nowE es s.here.id x).nd := by
      rcases nowE_cases h s.here.id x with ⟨e, _⟩ | ⟨e, he, _, _, e1, _⟩
      · rw [e] at hneg; exact absurd rfl hneg
      · rw [e1]; exact .inr ⟨e, he, rfl⟩
    split
    · exact hm _ _ _ (hw.use _)
    · exact goI_full h fol m hm rest _ ((hw.use _).go hn)
theorem goW_full {es : List En} {next : Int} (h : WF Mn es next) (fol : Bool) : ∀ (l : Nat) (steps : List ByteArray) (s : Ws), WayT es s → (goW (knC (fillS es)) fol l steps s).need = false
  | 0, steps, s, hw => goI_full h fol _ (fun _ _ _ _ => rfl) steps s hw
  | l + 1, steps, s, hw => goI_full h fol _ (fun tg rest s hw => by
    unfold metW
    split
    · exact goW_full h fol l _ _ (hw.met _ _)
    · rfl) steps s hw
theorem walkO_full {es : List En} {next : Int} (h : WF Mn es next) (path : ByteArray) (fol : Bool) (links : Int) : (walkO (knC (fillS es)) path fol links).need = false := by
  unfold walkO
  split
  · exact goW_full h fol _ _ _ (WayT.start _ _)
  · rfl
end
section
open Go.RowKit

def kyV (k : Ky) : Value := .agg #[.int .i64 k.d, .string k.nm]
def fkv (x : Ky × En) : Value × Value := (kyV x.1, x.2.agg)
/-- the map's block -/
def FAt (w : World) (g : Nat) (fl : Fl) : Prop := ∃ es clock, w.heap[g]? = some (.map es clock) ∧ es.toList.map (fun e => (e.key, e.val)) = fl.map fkv
theorem FAt.lt {w : World} {g : Nat} {fl : Fl} (h : FAt w g fl) : g < w.heap.size := by
  obtain ⟨es, clock, hh, _⟩ := h
  exact (Array.getElem?_eq_some_iff.1 hh).1
theorem FAt.moved {w w' : World} {g : Nat} {fl : Fl} (h : FAt w g fl) (e : w'.heap[g]? = w.heap[g]?) : FAt w' g fl := by
  obtain ⟨es, clock, hh, r⟩ := h
  exact ⟨es, clock, e.trans hh, r⟩
theorem FAt.below {w w' : World} {g : Nat} {fl : Fl} (h : FAt w g fl) (hb : Below w.heap.size w w') : FAt w' g fl := h.moved (hb.block g h.lt)
theorem fl_cases (fl : Fl) (k : Ky) : (∀ x ∈ fl, sameKy k x.1 = false) ∨ ∃ A x B, fl = A ++ x :: B ∧ (∀ y ∈ A, sameKy k y.1 = false) ∧ sameKy k x.1 = true := by
  induction fl with
  | nil => exact .inl fun x hx => by cases hx
  | cons a l ih =>
    cases h : sameKy k a.1 with
    | true => exact .inr ⟨[], a, l, rfl, (fun y hy => by cases hy), h⟩
    | false =>
      rcases ih with h1 | ⟨A, x, B, rfl, h2, h3⟩
      · refine .inl fun x hx => ?_
        rcases List.mem_cons.1 hx with rfl | hx
        · exact h
        · exact h1 x hx
      · refine .inr ⟨a :: A, x, B, rfl, fun y hy => ?_, h3⟩
        rcases List.mem_cons.1 hy with rfl | hy
        · exact h
        · exact h2 y hy
theorem fget_none {fl : Fl} {k : Ky} (h : ∀ x ∈ fl, sameKy k x.1 = false) : fget fl k = none := by
  unfold fget
  rw [List.find?_eq_none.2 (fun x hx => by rw [h x hx]; simp)]; rfl
theorem fget_some {A B : Fl} {x : Ky × En} {k : Ky} (h : ∀ y ∈ A, sameKy k y.1 = false) (hx : sameKy k x.1 = true) : fget (A ++ x :: B) k = some x.2 := by
  unfold fget
  rw [List.find?_append, List.find?_eq_none.2 (fun y hy => by rw [h y hy]; simp), Option.none_or, List.find?_cons]; simp only [hx]; rfl
theorem checkKy (w : World) (em : Bool) (k : Ky) : (Instr.checkKey em 10000 28 (kyV k)).run Try.prog w = .ok () w := by
  unfold Instr.checkKey kyV
  simp [run_underlying Try.underlying28, go_sem]
  unfold Instr.checkKey
  simp [go_sem]
theorem equalKy (w : World) (a b : Ky) : (Op.equal 28 (kyV a) (kyV b)).run Try.prog w = .ok (sameKy a b) w := by
  unfold Op.equal
  exact eqInK 9998 w a.d b.d a.nm b.nm
theorem findF_none (k : Ky) (w : World) : ∀ (es : List MapEntry) (ml : Fl) (i : Nat), es.map (fun e => (e.key, e.val)) = ml.map fkv → (∀ x ∈ ml, sameKy k x.1 = false) → (Instr.findAsking 28 (kyV k) es i).run Try.prog w = .ok none w
  | [], _, _, _, _ => rfl
  | e :: es, [], _, h, _ => by simp at h
  | e :: es, x :: ml, i, h, hn => by
    simp only [List.map_cons, List.cons.injEq] at h
    obtain ⟨h1, h2⟩ := h
    have hk : e.key = kyV x.1 := congrArg Prod.fst h1
    have := equalKy w k x.1
    rw [hn x (List.mem_cons_self ..)] at this
    unfold Instr.findAsking
    rw [hk]
    simp [this, findF_none k w es ml (i + 1) h2 fun y hy => hn y (List.mem_cons_of_mem _ hy)]
theorem findF_some (k : Ky) (w : World) (x : Ky × En) (B : Fl) (hx : sameKy k x.1 = true) : ∀ (es : List MapEntry) (A : Fl) (i : Nat), es.map (fun e => (e.key, e.val)) = (A ++ x :: B).map fkv → (∀ x ∈ A, sameKy k x.1 = false) → (Instr.findAsking 28 (kyV k) es i).run Try.prog w = .ok (some (i + A.length, x.2.agg)) w
  | [], A, _, h, _ => by simp at h
  | e :: es, [], i, h, _ => by
    simp only [List.nil_append, List.map_cons, List.cons.injEq] at h
    obtain ⟨h1, h2⟩ := h
    have hk : e.key = kyV x.1 := congrArg Prod.fst h1
    have hv : e.val = x.2.agg := congrArg Prod.snd h1
    have := equalKy w k x.1
    rw [hx] at this
    unfold Instr.findAsking
    rw [hk, hv]
    simp [this]
  | e :: es, y :: A, i, h, hn => by
    simp only [List.cons_append, List.map_cons, List.cons.injEq] at h
    obtain ⟨h1, h2⟩ := h
    have hk : e.key = kyV y.1 := congrArg Prod.fst h1
    have := equalKy w k y.1
    rw [hn y (List.mem_cons_self ..)] at this
    unfold Instr.findAsking
    rw [hk]
    simp [this, findF_some k w x B hx es A (i + 1) h2 fun y hy => hn y (List.mem_cons_of_mem _ hy)]
    omega
theorem findNowF (k : Value) (fs : Array Field) (e : MapEntry) (es : List MapEntry) (i : Nat) : Instr.findNow (.struct fs) k (e :: es) i = none := by
  unfold Instr.findNow Instr.sameNow
  simp
theorem findF (k : Ky) (w : World) (es : List MapEntry) (r : Option (Nat × Value)) (h : (Instr.findAsking 28 (kyV k) es).run Try.prog w = .ok r w) : (Instr.findKey 28 (kyV k) es).run Try.prog w = .ok r w := by
  unfold Instr.findKey
  cases es with
  | nil =>
    simp [Instr.findAsking] at h
    subst h
    simp [run_underlying Try.undK, Instr.findNow]
  | cons e es => simp [run_underlying Try.undK, findNowF, h]
theorem Try.infoEn7 : (Try.prog.info? 42).map (fun i => (i.zero, i.size, i.bytes)) = some (some zeroEn.agg, 7, 72) := by kernel_rfl
/-- a look-up -/
theorem lookF (k : Ky) (w : World) (g : Nat) (fl : Fl) (h : FAt w g fl) : (Instr.lookup 79 (.map (some g)) (kyV k) true).run Try.prog w = .ok (.tuple #[((fget fl k).getD zeroEn).agg, .bool (fget fl k).isSome]) w := by
  obtain ⟨es, clock, hh, he⟩ := h
  have ho : (getObj g).run Try.prog w = .ok (.map es clock) w := MapKept.run_getObj_map hh
  have hz := zero_of Try.infoEn7 w
  unfold Instr.lookup
  rcases fl_cases fl k with hn | ⟨A, x, B, rfl, hA, hx⟩
  · have hf := findF k w es.toList none (findF_none k w es.toList fl 0 he hn)
    simp [run_underlying Try.underlying79, checkKy, hf, fget_none hn, ho, hz]
  · have hf := findF k w es.toList _ (findF_some k w x B hx es.toList A 0 he hA)
    simp [run_underlying Try.underlying79, checkKy, hf, fget_some hA hx, ho]
theorem not_same {fl : Fl} {k : Ky} (h : fget fl k = none) : ∀ x ∈ fl, sameKy k x.1 = false := by
  unfold fget at h
  rw [Option.map_eq_none_iff, List.find?_eq_none] at h
  intro x hx
  have := h x hx
  simpa using this
/-- a store of what is not there -/
theorem storeF (k : Ky) (e : En) (w : World) (g : Nat) (fl : Fl) (h : FAt w g fl) (hno : fget fl k = none) : ∃ w', (Instr.mapUpdate 79 (.map (some g)) (kyV k) e.agg).run Try.prog w = .ok () w' ∧ FAt w' g (fl ++ [(k, e)]) ∧ Only (· = g) w w' := by
  obtain ⟨es, clock, hh, he⟩ := h
  have ho : (getObj g).run Try.prog w = .ok (.map es clock) w := MapKept.run_getObj_map hh
  have hg := (Array.getElem?_eq_some_iff.1 hh).1
  unfold Instr.mapUpdate
  have hf := findF k w es.toList none (findF_none k w es.toList fl 0 he (not_same hno))
  refine ⟨{ w with heap := w.heap.setIfInBounds g (.map (es.push { key := kyV k, val := e.agg, born := clock }) (clock + 1)) }, ?_, ?_, only_block w g _⟩
  · simp [run_underlying Try.underlying79, checkKy, hf, ho, MapKept.run_setObj_map _ hh]
  · refine ⟨_, _, by simp [hg]; exact ⟨rfl, rfl⟩, ?_⟩
    simp [he, fkv]
end
end Go.Proofs.Ytppbbddlbfgpfaa
