/- prune: mayGo, Victim. -/
import Derived.Test.YtabdicbmecgogaaJPEpt23
namespace Go.Proofs.Ytabdicbmecgogaa
section
open Go.RowKit
attribute [local go_sem ↓ high] loadEn storeEn

theorem mayT_p (p : Nat) (w : World) : Calls Try.prog 33 #[.pointer (some ⟨p, 0, none⟩), .bool true] w fun r w' => r = .returned (.func (.func 53) #[] #[]) ∧ Below w.heap.size w w' := by
  obtain ⟨W, hW⟩ : ∃ W, w.alloc (.cells #[.pointer (some ⟨p, 0, none⟩)] 23) = W := ⟨_, rfl⟩
  have b := boxO hW
  have HB : Hid (Below w.heap.size w W) := b.2.1
  clear b
  go_enter Try.func33, Try.ntmps33
  go_wp2
  go_ret
  exact ⟨rfl, HB.out⟩
theorem mayF_p (p : Nat) (w : World) : Calls Try.prog 33 #[.pointer (some ⟨p, 0, none⟩), .bool false] w fun r w' => ∃ g, r = .returned (.func (.func 54) #[] #[.pointer (some ⟨g, 0, none⟩)]) ∧ w'.heap[g]? = some (.cells #[.pointer (some ⟨p, 0, none⟩)] 23 (0, 0)) ∧ w.heap.size ≤ g ∧ Below w.heap.size w w' := by
  obtain ⟨W, hW⟩ : ∃ W, w.alloc (.cells #[.pointer (some ⟨p, 0, none⟩)] 23) = W := ⟨_, rfl⟩
  have b := boxO hW
  have HB : Hid (Below w.heap.size w W ∧ W.heap[w.heap.size]? = some (.cells #[.pointer (some ⟨p, 0, none⟩)] 23 (0, 0))) := ⟨b.2.1, b.1⟩
  clear b
  go_enter Try.func33, Try.ntmps33
  go_wp2
  go_ret
  exact ⟨_, rfl, HB.out.2, Nat.le_refl _, HB.out.1⟩
theorem idxE_cases (p : En → Bool) (l : List En) : (l.find? p = none ∧ idxE p l = -1) ∨ ∃ (k : Nat) (x : En), l[k]? = some x ∧ l.find? p = some x ∧ idxE p l = k ∧ k < l.length := by
  cases h : l.findIdx? p with
  | none =>
    rw [List.findIdx?_eq_none_iff] at h
    exact .inl ⟨by rw [List.find?_eq_none]; intro x hx; rw [h x hx]; simp, idxE_miss h⟩
  | some k =>
    have h' := h
    rw [List.findIdx?_eq_some_iff_getElem] at h'
    obtain ⟨hk, hp, hno⟩ := h'
    refine .inr ⟨k, l[k], List.getElem?_eq_getElem hk, ?_, by unfold idxE; rw [h], hk⟩
    rw [List.find?_eq_some_iff_getElem]
    exact ⟨hp, k, hk, rfl, fun j hj => by simpa using hno j hj⟩
theorem hset2 {w : World} {b : Nat} {x y x' y' : Value} {t : TypeId} (h : w.heap[b]? = some (.cells #[x, y] t (0, 0))) : ((w.setCell ⟨b, 0, none⟩ x').setCell ⟨b, 1, none⟩ y').heap[b]? = some (.cells #[x', y'] t (0, 0)) := by
  have h1 : (w.setCell ⟨b, 0, none⟩ x').heap[b]? = some (.cells #[x', y] t (0, 0)) := by
    rw [setCell_eq_setRow w b 0 _ t _ x' h]; exact setRow_heap w b _ _ t _ h
  rw [setCell_eq_setRow _ b 1 _ t _ y' h1]; exact setRow_heap _ b _ _ t _ h1
theorem Try.sizeKb : (Try.prog.info? 28).map (·.size) = some 2 := by kernel_rfl
theorem ret_key2 {fn : Func} {p u : Tmp} (h : fn.results = #[.cell p 28, .tmp u]) (tmps : Array Value) (w : World) (g : Nat) {t : TypeId} {cs : Array Value} {fr : Nat × Nat} (hp : tmps.getD p undef = .pointer (some ⟨g, 0, none⟩)) (hg : w.heap[g]? = some (.cells cs t fr)) (hs : cs.size = 2 := by rfl) :
    (results fn tmps).run Try.prog w = .ok (.tuple #[.agg cs, tmps.getD u undef]) w := by
  rw [results_cell_tmp h, hp]
  simp [asAddr, run_loadVar_row w g t 28 cs fr _ hg Try.underlying28 rfl (by rw [hs]; exact Try.sizeKb), Result.andThen]
/-- the victim: the first that may go -/
def vicS (s : Cs) (b : Bool) : Option En := s.L.find? fun x => if b then x.neg else leafB s.L x.key
def vicV : Option En → Value
  | none => .tuple #[.agg #[.int .i64 0, .string ⟨#[]⟩], .bool false]
  | some x => .tuple #[.agg #[.int .i64 x.d, .string x.nm], .bool true]
set_option maxRecDepth 20000 in
set_option maxHeartbeats 4000000 in
theorem vicT_p {w0 w : World} {p : Nat} {s : Cs} {n : Nat} {F : Nat → Prop} (h : Ld w0 w p s n F) (hn : n ≤ 1400000000000) : Calls Try.prog 7 #[.pointer (some ⟨p, 0, none⟩), .bool true] w fun r w' => r = .returned (vicV (vicS s true)) ∧ Below w.heap.size w w' := by
  obtain ⟨W, hW⟩ : ∃ W, w.alloc (.cells #[.int .i64 0, .string ⟨#[]⟩] 28) = W := ⟨_, rfl⟩
  have b := boxO hW
  have HE : Hid (Calls Try.prog 15 #[.pointer (some ⟨p, 0, none⟩)] W fun x w' => ∃ v, x = .returned v ∧ Row7 w' W.heap.size v s.L ∧ Below W.heap.size W w') := ld_entries (h.on b.2.1) hn
  have HB : Hid (Below w.heap.size w W ∧ W.heap[w.heap.size]? = some (.cells #[.int .i64 0, .string ⟨#[]⟩] 28 (0, 0))) := ⟨b.2.1, b.1⟩
  obtain ⟨c, h1, h2, h3, h4⟩ := h.ex
  have HC : Hid (IsC W p c ∧ Says c s ∧ s.L.length ≤ 1400000000000) := ⟨h1.below b.2.1, h2, Nat.le_trans h.len hn⟩
  have hv : vicS s true = s.L.find? (fun x : En => x.neg) := rfl
  rw [hv]
  clear h h1 h2 h3 h4 hv hn b
  rcases idxE_cases (fun x : En => x.neg) s.L with ⟨hf, hi⟩ | ⟨k, x, hx, hf, hi, hk⟩
  · rw [hf]
    have HI : Hid (idxE (fun x : En => x.neg) s.L = -1) := hi
    have hlt : (-1 : Int) < 0 := by omega
    clear hf hi
    go_enter Try.func7, Try.ntmps7
    go_wp2_with first
      | (go_at_call 15; refine HE.out.mono ?_; rintro r w1 ⟨v1, rfl, hr, hb⟩; obtain ⟨a1, c1, rfl⟩ := owns_len hr; have H1 : Hid (Row7 w1 W.heap.size (.slice a1 s.L.length c1) s.L ∧ Below W.heap.size W w1) := ⟨hr, hb⟩; clear hr hb)
      | (go_at_call 33; refine (mayT_p p _).mono ?_; rintro r w2 ⟨rfl, hb⟩; have H2 : Hid (Row7 w2 W.heap.size (.slice a1 s.L.length c1) s.L ∧ Below W.heap.size W w2) := ⟨H1.out.1.below hb, chainB H1.out.2 hb⟩; clear hb)
      | (go_at_call 32; refine (index1_p (fun x : En => x.neg) _ _ s.L _ H2.out.1 HC.out.2.2 (fun W x _ => may1_p x W)).mono ?_; rw [HI.out]; rintro r w3 ⟨rfl, hb⟩; have H3 : Hid (Below w.heap.size w w3) := chainB HB.out.1 (chainB H2.out.2 hb); have HZ : Hid (w3.heap[w.heap.size]? = some (.cells #[.int .i64 0, .string ⟨#[]⟩] 28 (0, 0))) := hkeep HB.out.2 (chainB H2.out.2 hb); have f0 := free_of HZ.out 0; have f1 := free_of HZ.out 1; have q0 := cell_of (hkeep HB.out.2 (chainB H2.out.2 hb)) 0; have q1 := cell_of (hkeep HB.out.2 (chainB H2.out.2 hb)) 1; simp at q0 q1; clear hb)
    (try simp only [Exit.inBlock, Exit.then])
    refine bodyPost_ret (ret_key2 rfl _ _ w.heap.size rfl (hset2 HZ.out)) rfl ?_
    exact ⟨rfl, (H3.out.setCell (Nat.le_refl _) _).setCell (Nat.le_refl _) _⟩
  · rw [hf]
    have HI : Hid (idxE (fun x : En => x.neg) s.L = k ∧ s.L[k]? = some x) := ⟨hi, hx⟩
    have hlt : ¬ ((k : Int) < 0) := by omega
    have hltz : (k : Int) < (s.L.length : Int) := by omega
    clear hf hi hx
    go_enter Try.func7, Try.ntmps7
    go_wp2_with first
      | (go_at_call 15; refine HE.out.mono ?_; rintro r w1 ⟨v1, rfl, hr, hb⟩; obtain ⟨a1, c1, rfl⟩ := owns_len hr; have H1 : Hid (Row7 w1 W.heap.size (.slice a1 s.L.length c1) s.L ∧ Below W.heap.size W w1) := ⟨hr, hb⟩; clear hr hb)
      | (go_at_call 33; refine (mayT_p p _).mono ?_; rintro r w2 ⟨rfl, hb⟩; have H2 : Hid (Row7 w2 W.heap.size (.slice a1 s.L.length c1) s.L ∧ Below W.heap.size W w2) := ⟨H1.out.1.below hb, chainB H1.out.2 hb⟩; clear hb)
      | (go_at_call 32; refine (index1_p (fun x : En => x.neg) _ _ s.L _ H2.out.1 HC.out.2.2 (fun W x _ => may1_p x W)).mono ?_; rw [HI.out.1]; rintro r w3 ⟨rfl, hb⟩; have H3 : Hid (Below w.heap.size w w3) := chainB HB.out.1 (chainB H2.out.2 hb); have HZ : Hid (w3.heap[w.heap.size]? = some (.cells #[.int .i64 0, .string ⟨#[]⟩] 28 (0, 0))) := hkeep HB.out.2 (chainB H2.out.2 hb); have f0 := free_of HZ.out 0; have f1 := free_of HZ.out 1; have q0 := cell_of (hkeep HB.out.2 (chainB H2.out.2 hb)) 0; have q1 := cell_of (hkeep HB.out.2 (chainB H2.out.2 hb)) 1; simp at q0 q1; obtain ⟨g, rfl, -, -, -, hc, -⟩ := owns_entry (H2.out.1.below hb) HI.out.2; have k0 := hc.c0; have k1 := hc.c1; have lE := enLd_at hc; clear hc; clear hb)
    (try simp only [Exit.inBlock, Exit.then])
    refine bodyPost_ret (ret_key2 rfl _ _ w.heap.size rfl (hset2 HZ.out)) rfl ?_
    exact ⟨rfl, (H3.out.setCell (Nat.le_refl _) _).setCell (Nat.le_refl _) _⟩
set_option maxRecDepth 20000 in
set_option maxHeartbeats 4000000 in
theorem vicF_p {w0 w : World} {p : Nat} {s : Cs} {n : Nat} {F : Nat → Prop} (h : Ld w0 w p s n F) (hn : n ≤ 1400000000000) : Calls Try.prog 7 #[.pointer (some ⟨p, 0, none⟩), .bool false] w fun r w' => r = .returned (vicV (vicS s false)) ∧ Below w.heap.size w w' := by
  obtain ⟨W, hW⟩ : ∃ W, w.alloc (.cells #[.int .i64 0, .string ⟨#[]⟩] 28) = W := ⟨_, rfl⟩
  have b := boxO hW
  have HE : Hid (Calls Try.prog 15 #[.pointer (some ⟨p, 0, none⟩)] W fun x w' => ∃ v, x = .returned v ∧ Row7 w' W.heap.size v s.L ∧ Below W.heap.size W w') := ld_entries (h.on b.2.1) hn
  have HB : Hid (Below w.heap.size w W ∧ W.heap[w.heap.size]? = some (.cells #[.int .i64 0, .string ⟨#[]⟩] 28 (0, 0))) := ⟨b.2.1, b.1⟩
  obtain ⟨c, h1, h2, h3, h4⟩ := h.ex
  have HC : Hid (IsC W p c ∧ Says c s ∧ s.L.length ≤ 1400000000000) := ⟨h1.below b.2.1, h2, Nat.le_trans h.len hn⟩
  have hv : vicS s false = s.L.find? (fun x : En => leafB s.L x.key) := rfl
  rw [hv]
  clear h h1 h2 h3 h4 hv hn b
  rcases idxE_cases (fun x : En => leafB s.L x.key) s.L with ⟨hf, hi⟩ | ⟨k, x, hx, hf, hi, hk⟩
  · rw [hf]
    have HI : Hid (idxE (fun x : En => leafB s.L x.key) s.L = -1) := hi
    have hlt : (-1 : Int) < 0 := by omega
    clear hf hi
    go_enter Try.func7, Try.ntmps7
    go_wp2_with first
      | (go_at_call 15; refine HE.out.mono ?_; rintro r w1 ⟨v1, rfl, hr, hb⟩; obtain ⟨a1, c1, rfl⟩ := owns_len hr; have H1 : Hid (Row7 w1 W.heap.size (.slice a1 s.L.length c1) s.L ∧ Below W.heap.size W w1) := ⟨hr, hb⟩; clear hr hb)
      | (go_at_call 33; refine (mayF_p p _).mono ?_; rintro r w2 ⟨gc, rfl, hg, -, hb⟩; have H2 : Hid (Row7 w2 W.heap.size (.slice a1 s.L.length c1) s.L ∧ Below W.heap.size W w2 ∧ w2.heap[gc]? = some (.cells #[.pointer (some ⟨p, 0, none⟩)] 23 (0, 0))) := ⟨H1.out.1.below hb, chainB H1.out.2 hb, hg⟩; clear hb hg)
      | (go_at_call 32; refine (index2_p (fun x : En => leafB s.L x.key) gc _ _ s.L _ H2.out.1 HC.out.2.2 (fun W x hb => may2_p x gc p c s W (hkeep H2.out.2.2 hb) (HC.out.1.below (chainB H2.out.2.1 hb)) HC.out.2.1)).mono ?_; rw [HI.out]; rintro r w3 ⟨rfl, hb⟩; have H3 : Hid (Below w.heap.size w w3) := chainB HB.out.1 (chainB H2.out.2.1 hb); have HZ : Hid (w3.heap[w.heap.size]? = some (.cells #[.int .i64 0, .string ⟨#[]⟩] 28 (0, 0))) := hkeep HB.out.2 (chainB H2.out.2.1 hb); have f0 := free_of HZ.out 0; have f1 := free_of HZ.out 1; have q0 := cell_of (hkeep HB.out.2 (chainB H2.out.2.1 hb)) 0; have q1 := cell_of (hkeep HB.out.2 (chainB H2.out.2.1 hb)) 1; simp at q0 q1; clear hb)
    (try simp only [Exit.inBlock, Exit.then])
    refine bodyPost_ret (ret_key2 rfl _ _ w.heap.size rfl (hset2 HZ.out)) rfl ?_
    exact ⟨rfl, (H3.out.setCell (Nat.le_refl _) _).setCell (Nat.le_refl _) _⟩
  · rw [hf]
    have HI : Hid (idxE (fun x : En => leafB s.L x.key) s.L = k ∧ s.L[k]? = some x) := ⟨hi, hx⟩
    have hlt : ¬ ((k : Int) < 0) := by omega
    have hltz : (k : Int) < (s.L.length : Int) := by omega
    clear hf hi hx
    go_enter Try.func7, Try.ntmps7
    go_wp2_with first
      | (go_at_call 15; refine HE.out.mono ?_; rintro r w1 ⟨v1, rfl, hr, hb⟩; obtain ⟨a1, c1, rfl⟩ := owns_len hr; have H1 : Hid (Row7 w1 W.heap.size (.slice a1 s.L.length c1) s.L ∧ Below W.heap.size W w1) := ⟨hr, hb⟩; clear hr hb)
      | (go_at_call 33; refine (mayF_p p _).mono ?_; rintro r w2 ⟨gc, rfl, hg, -, hb⟩; have H2 : Hid (Row7 w2 W.heap.size (.slice a1 s.L.length c1) s.L ∧ Below W.heap.size W w2 ∧ w2.heap[gc]? = some (.cells #[.pointer (some ⟨p, 0, none⟩)] 23 (0, 0))) := ⟨H1.out.1.below hb, chainB H1.out.2 hb, hg⟩; clear hb hg)
      | (go_at_call 32; refine (index2_p (fun x : En => leafB s.L x.key) gc _ _ s.L _ H2.out.1 HC.out.2.2 (fun W x hb => may2_p x gc p c s W (hkeep H2.out.2.2 hb) (HC.out.1.below (chainB H2.out.2.1 hb)) HC.out.2.1)).mono ?_; rw [HI.out.1]; rintro r w3 ⟨rfl, hb⟩; have H3 : Hid (Below w.heap.size w w3) := chainB HB.out.1 (chainB H2.out.2.1 hb); have HZ : Hid (w3.heap[w.heap.size]? = some (.cells #[.int .i64 0, .string ⟨#[]⟩] 28 (0, 0))) := hkeep HB.out.2 (chainB H2.out.2.1 hb); have f0 := free_of HZ.out 0; have f1 := free_of HZ.out 1; have q0 := cell_of (hkeep HB.out.2 (chainB H2.out.2.1 hb)) 0; have q1 := cell_of (hkeep HB.out.2 (chainB H2.out.2.1 hb)) 1; simp at q0 q1; obtain ⟨g, rfl, -, -, -, hc, -⟩ := owns_entry (H2.out.1.below hb) HI.out.2; have k0 := hc.c0; have k1 := hc.c1; have lE := enLd_at hc; clear hc; clear hb)
    (try simp only [Exit.inBlock, Exit.then])
    refine bodyPost_ret (ret_key2 rfl _ _ w.heap.size rfl (hset2 HZ.out)) rfl ?_
    exact ⟨rfl, (H3.out.setCell (Nat.le_refl _) _).setCell (Nat.le_refl _) _⟩
theorem nodeID_p (x : En) (w : World) : Calls Try.prog 64 #[x.agg] w fun r w' => r = .returned (.int .i64 (if x.neg then 0 else x.id)) ∧ Below w.heap.size w w' := by
  obtain ⟨W, hW⟩ : ∃ W, w.alloc (.cells x.vals.toArray 47) = W := ⟨_, rfl⟩
  have b := boxO hW
  have c2 := (cells7_of b.1).c2
  have c3 := (cells7_of b.1).c3
  simp only [Nat.zero_add] at c2 c3
  have HB : Hid (Below w.heap.size w W) := b.2.1
  rw [show x.agg = .agg x.vals.toArray from rfl]
  clear b
  obtain ⟨bn, hbn⟩ : ∃ q, x.neg = q := ⟨_, rfl⟩
  rw [hbn] at c2 ⊢
  go_enter Try.func64, Try.ntmps64
  cases bn with
  | true =>
    go_wp2
    go_ret
    exact ⟨rfl, HB.out⟩
  | false =>
    go_wp2
    go_ret
    exact ⟨rfl, HB.out⟩
end
end Go.Proofs.Ytabdicbmecgogaa
