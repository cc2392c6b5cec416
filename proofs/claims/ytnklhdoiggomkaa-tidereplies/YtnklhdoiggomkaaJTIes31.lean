/- The law TideReplies. -/
import Derived.Test.YtnklhdoiggomkaaJTIes30
namespace Go.Proofs.Ytnklhdoiggomkaa
section
open Go.RowKit Go.Shelf
attribute [local go_sem ↓ high] loadMsg storeMsg buildMsg storeAct loadAct buildAct
attribute [local go_sem high] run_store_complex eqC

def enK (k : Ky) : En := ⟨k.d, k.nm, true, 0, 0, 0, ⟨#[]⟩⟩
def esN (ks : List Ky) (i : Nat) : List En := (ks.take i).map enK
theorem esN_succ {ks : List Ky} {i : Nat} {p : Ky} (h : ks[i]? = some p) : esN ks (i + 1) = esN ks i ++ [enK p] := by
  unfold esN
  rw [List.take_add_one, h, List.map_append]; rfl
theorem esN_len (ks : List Ky) (i : Nat) : (esN ks i).length ≤ i := by unfold esN; rw [List.length_map, List.length_take]; omega
theorem om_only {w W V : World} {t : Nat} {a : Option Addr} {N c : Nat} {S : Ts} {F : Nat → Prop} {ms : List Hm} {rb : Nat} (h : Om w W t a N c S F ms) (ho : Only (· = rb) W V) (hf : F rb) (hl : w.heap.size ≤ rb) (ht : Tag W rb 45) (hq : ∀ q, (Value.slice a N c).ownBlock = some q → q ≠ rb) : Om w V t a N c S F ms :=
  ⟨h.lt.mine ho (fun k hk => by rw [hk]; exact ⟨hf, hl⟩), owns_moved h.row fun q e => ho.block q (Tag.own h.row e).lt (hq q e), h.own, fun z hz => (h.each z hz).only ho fun q hq => ⟨by rw [hq]; exact ht.two (by decide), by rw [hq]; exact ht.two (by decide)⟩, h.say⟩
/-- the reply, while its entries are laid -/
structure Rf (w W4 wr : World) (s : Int) (k : Nat) (ks : List Ky) (rb i : Nat) (ae : Option Addr) (ce : Nat) : Prop where
  only : Only (· = rb) W4 wr
  box : wr.heap[rb]? = some (.cells (Hm.arr ⟨rpN s k (esN ks i), ae, ce, none, 0⟩) 45 (0, 0))
  row : Row7 wr W4.heap.size (.slice ae (esN ks i).length ce) (esN ks i)
  low : w.heap.size ≤ rb
  bel : Below w.heap.size w wr
  lt4 : rb < W4.heap.size
theorem Rf.step {w W4 wr W5 : World} {s : Int} {k : Nat} {ks : List Ky} {rb i : Nat} {ae : Option Addr} {ce : Nat} (h : Rf w W4 wr s k ks rb i ae ce) {p : Ky} (hp : ks[i]? = some p) (hW5 : wr.drew.alloc (.cells (enK p).vals.toArray 74) = W5) (hi : i ≤ 20) :
    ∃ a6 q6 W6, (∀ ty, (Builtin.append_ #[33, 33] ty #[.slice ae (esN ks i).length ce, .slice (some ⟨wr.heap.size, 0, none⟩) 1 1]).run Try.prog W5 = .ok (.slice a6 (esN ks (i + 1)).length q6) W6) ∧ (∃ v, W6.cell? ⟨rb, 14, none⟩ = some v) ∧ (∀ i, W6.frozen? ⟨rb, i, none⟩ = false) ∧ ∀ W7, W6.setCell ⟨rb, 14, none⟩ (.slice a6 (esN ks (i + 1)).length q6) = W7 → Rf w W4 W7 s k ks rb (i + 1) a6 q6 := by
  have hd : Below wr.heap.size wr wr.drew := (Below.refl _ _).drew
  have hb5 := boxB hW5
  have b5 : Below wr.heap.size wr W5 := chainB hd hb5.2
  have r5 := h.row.below b5
  have one : Row7 W5 0 (.slice (some ⟨wr.heap.size, 0, none⟩) 1 1) [enK p] := by rw [← hW5]; exact one_ent (w := wr.drew) (enK p)
  have hB : W4.heap.size ≤ W5.heap.size := Nat.le_trans h.only.size b5.size
  obtain ⟨v6, W6, happ, hr6, ho6⟩ := ents_append r5 one hB (by have := esN_len ks i; simp; omega)
  rw [← esN_succ hp] at hr6
  obtain ⟨a6, q6, rfl⟩ := owns_len hr6
  have bx5 := hkeep h.box b5
  have hne : ∀ q, (Value.slice ae (esN ks i).length ce).ownBlock = some q → q ≠ rb := fun q hq e => by
    have := (World.ownsRow.lt r5 q hq).1
    have := h.lt4
    omega
  have bx6 : W6.heap[rb]? = some (.cells (Hm.arr ⟨rpN s k (esN ks i), ae, ce, none, 0⟩) 45 (0, 0)) := (ho6.block rb (Array.getElem?_eq_some_iff.1 bx5).1 fun hq => hne rb hq rfl).trans bx5
  refine ⟨a6, q6, W6, happ, ⟨_, cell_of bx6 14⟩, free_of bx6, fun W7 hW7 => ?_⟩
  have o7 : Only (· = rb) W6 W7 := by rw [← hW7]; exact only1 _ _ _ _
  have o46 : Only (· = rb) W4 W6 := by
    refine ⟨ho6.os.trans (b5.os.trans h.only.os), ho6.tape.trans (b5.tape.trans h.only.tape), ho6.output.trans (b5.output.trans h.only.output), Nat.le_trans h.only.size (Nat.le_trans b5.size ho6.size), fun q hq hn => ?_⟩
    have e1 := h.only.block q hq hn
    have e2 := b5.block q (Nat.lt_of_lt_of_le hq h.only.size)
    have e3 := ho6.block q (Nat.lt_of_lt_of_le hq hB) (fun hqq => by have := (World.ownsRow.lt r5 q hqq).1; omega)
    exact e3.trans (e2.trans e1)
  have bw6 : Below w.heap.size w W6 := ho6.below (chainB h.bel b5) (Nat.le_trans h.bel.size b5.size) (fun q hq => by
    have h1 := (World.ownsRow.lt r5 q hq).1
    have h2 := h.lt4
    have h3 := h.low
    omega)
  refine ⟨o46.trans o7, ?_, ?_, h.low, o7.below bw6 bw6.size (fun q hq => by rw [hq]; exact h.low), h.lt4⟩
  · rw [← hW7]; exact heap_set bx6 14 _
  · exact owns_moved hr6 fun q e => o7.block q (World.ownsRow.lt hr6 q e).2 fun hq => by
      have h1 := (World.ownsRow.lt hr6 q e).1
      have h2 := h.lt4
      have h3 : q = rb := hq
      omega
theorem rl_start {w w3 W3 W4 : World} {t : Nat} {a : Option Addr} {N c : Nat} {S : Ts} {F : Nat → Prop} {ms : List Hm} {rb : Nat} {old : Array Value} {s : Int} {k : Nat} (ks : List Ky) (h : Om w w3 t a N c S F ms) (hW3 : w3.alloc (.cells old 45) = W3) (hrb : w3.heap.size = rb) (hW4 : W3.setRow rb (Hm.arr ⟨rpN s k [], none, 0, none, 0⟩) = W4) :
    ∃ F', Om w W4 t a N c S F' ms ∧ F' rb ∧ Tag W4 rb 45 ∧ (∀ q, (Value.slice a N c).ownBlock = some q → q ≠ rb) ∧ Rf w W4 W4 s k ks rb 0 none 0 := by
  have hb3 := boxB hW3
  rw [hrb] at hb3
  have b3 : Below w3.heap.size w3 W3 := by rw [hrb]; exact hb3.2
  have o4 : Only (· = rb) W3 W4 := by rw [← hW4]; exact onlyR _ _ _
  have bx4 : W4.heap[rb]? = some (.cells (Hm.arr ⟨rpN s k [], none, 0, none, 0⟩) 45 (0, 0)) := by rw [← hW4]; exact setRow_heap _ _ _ _ _ _ hb3.1
  have b4 : Below w3.heap.size w3 W4 := o4.below b3 b3.size (fun q hq => by rw [hq, hrb]; exact Nat.le_refl _)
  have hlt4 : rb < W4.heap.size := (Array.getElem?_eq_some_iff.1 bx4).1
  have hlow : w.heap.size ≤ rb := by rw [← hrb]; exact h.lt.bel.size
  refine ⟨fun q => F q ∨ (w3.heap.size ≤ q ∧ q < W4.heap.size), ⟨h.lt.add b4, h.row.below b4, fun q hq => .inl (h.own q hq), fun z hz => (h.each z hz).below b4, h.say⟩, .inr ⟨by omega, hlt4⟩, ⟨_, _, bx4⟩, fun q hq e => ?_, ⟨Only.refl _ _, bx4, World.ownsRow_nil _ _ _ _, hlow, chainB h.lt.bel b4, hlt4⟩⟩
  have := (Tag.own h.row hq).lt
  omega
def PhTk (w : World) (t : Nat) (a : Option Addr) (N cp : Nat) (s : Int) (k E : Nat) (es : List En) (c n : Nat) (F : Nat → Prop) (ms : List Hm) (rb : Nat) (x : Hm) (B : Nat) (v : Value) (e : Ending) (w' : World) : Prop :=
  ∃ v2 v3 W3 l3, e = .returned v2 ∧ (∀ ty, (Builtin.append_ #[41, 41] ty #[v, v2]).run Try.prog w' = .ok v3 W3) ∧ l3.map Am.c = phA k (max E k) es c n ∧ Rl w W3 t a N cp (phS s k es c n) F ms rb x B v3 l3
theorem rl_rep {w W : World} {t : Nat} {a : Option Addr} {N cp : Nat} {s : Int} {k E : Nat} {es : List En} {F : Nat → Prop} {ms : List Hm} {rb : Nat} {x : Hm} {B : Nat} {v : Value} {l : List Am} (h : Rl w W t a N cp (phS s k es 0 E) F ms rb x B v l) (hl : l.map Am.c = phA k (max E k) es 0 E) (hx : x.m = rpN s k es) (hs : 0 < s) (hk : k ≤ 8) (hE : E ≤ 8) :
    ∃ c, c ≠ 0 ∧ phOk k E c E ∧ Calls Try.prog 15 #[.pointer (some ⟨t, 0, none⟩), .agg x.arr] W fun e w' => PhTk w t a N cp s k E es c E F ms rb x B v e w' := by
  obtain ⟨c, A, h0, hst, hA, hok⟩ := ph_rep s k E es hs (by omega)
  have hlen : l.length + A.length ≤ 1000 := by
    have h1 := congrArg List.length hl
    have h2 := congrArg List.length hA
    have h3 := ph_len k (max E k) es c E
    rw [List.length_map] at h1
    rw [List.length_append] at h2
    omega
  refine ⟨c, h0, hok, (h.take x h.ls (by rw [hx]; exact hst) hlen).mono ?_⟩
  rintro e w' ⟨v2, v3, W3, l3, rfl, happ, hm, hr⟩
  exact ⟨v2, v3, W3, l3, rfl, happ, by rw [hm, hl, hA], hr⟩
theorem rl_brk {w W : World} {t g : Nat} {N cp : Nat} {s : Int} {k E : Nat} {es : List En} {F : Nat → Prop} {ms : List Hm} {rb : Nat} {x : Hm} {B : Nat} {v : Value} {l : List Am} {c n : Nat} (h : Rl w W t (some ⟨g, 0, none⟩) N cp (phS s k es c n) F ms rb x B v l) (hl : l.map Am.c = phA k (max E k) es c n) (hok : phOk k E c n) (h0 : c = 0 → n < E) (hs : 0 < s) (hk : k ≤ 8) (hE : E ≤ 8) (hn : n < N) (hN : N ≤ 8) :
    ∃ c' Z, (c = 0 ↔ c' = 0) ∧ phOk k E c' (n + 1) ∧ (msgLd (.pointer (some ⟨g, n * 16, none⟩))).run Try.prog W = .ok (.agg Z) W ∧ Calls Try.prog 15 #[.pointer (some ⟨t, 0, none⟩), .agg Z] W fun e w' => PhTk w t (some ⟨g, 0, none⟩) N cp s k E es c' (n + 1) F ms rb x B v e w' := by
  obtain ⟨c', A, hcc, hst, hA, hok'⟩ := ph_brk s k E es hs (by omega) c n hok h0 (by omega)
  obtain ⟨g', z, e', -, hzm, hzL, ml⟩ := h.om.get n hn
  cases e'
  have hlen : l.length + A.length ≤ 1000 := by
    have h1 := congrArg List.length hl
    have h2 := congrArg List.length hA
    have h3 := ph_len k (max E k) es c' (n + 1)
    rw [List.length_map] at h1
    rw [List.length_append] at h2
    omega
  refine ⟨c', z.arr, hcc, hok', ml, (h.take z hzL (by rw [hzm]; exact hst) hlen).mono ?_⟩
  rintro e w' ⟨v2, v3, W3, l3, rfl, happ, hm, hr⟩
  exact ⟨v2, v3, W3, l3, rfl, happ, by rw [hm, hl, hA], hr⟩
theorem acts_at {W : World} {B n c j : Nat} {a : Option Addr} {l : List Am} {A : List Ac} (h : Acts W B (.slice a n c) l) (hA : l.map Am.c = A) (hj : j < n) (hn : l.length = n) : ∃ g z, a = some ⟨g, 0, none⟩ ∧ l[j]? = some z ∧ A[j]? = some z.c ∧ W.cell? ⟨g, j * 7 + 2, none⟩ = some (.bool z.c.reply) ∧ W.cell? ⟨g, j * 7 + 3, none⟩ = some (.bool z.c.whole) ∧ W.cell? ⟨g, j * 7 + 4, none⟩ = some (.slice z.ak z.c.ks.length z.ck) ∧ W.cell? ⟨g, j * 7 + 6, none⟩ = some (.slice z.ae z.c.es.length z.ce) ∧ Row7 W B (.slice z.ae z.c.es.length z.ce) z.c.es := by
  obtain ⟨z, hz⟩ : ∃ z, l[j]? = some z := ⟨_, List.getElem?_eq_getElem (by omega)⟩
  obtain ⟨g, rfl, -, -, -, q⟩ := owns_act h.row hz
  exact ⟨g, z, rfl, hz, by rw [← hA, List.getElem?_map, hz]; rfl, q 2 _ rfl, q 3 _ rfl, q 4 _ rfl, q 6 _ rfl, (h.each z (List.mem_of_getElem? hz)).es⟩
def rpn (M j : Nat) : Nat := if j ≤ M + 1 then 0 else 1
theorem nm_no {b : ByteArray} (h : ¬ b = ⟨#[107]⟩) : (b.toList == [107]) = false := by
  rw [beq_eq_false_iff_ne]
  intro e
  apply h
  have e2 : b.toList = (⟨#[107]⟩ : ByteArray).toList := by rw [e]; kernel_rfl
  rw [ByteArray.toList_eq, ByteArray.toList_eq] at e2
  exact ByteArray.ext (Array.toList_inj.mp e2)
theorem filter_snoc {es : List En} {j : Nat} {e : En} {f : En → Bool} (h : es[j]? = some e) : (es.take (j + 1)).filter f = (es.take j).filter f ++ (if f e then [e] else []) := by
  rw [List.take_add_one, h, List.filter_append]
  cases hf : f e <;> simp [hf]
set_option maxHeartbeats 16000000 in
set_option maxRecDepth 100000 in
theorem replies_walk (x0 x1 x2 x3 : Int) (aK : Option Addr) (capK : Nat) (ks : List Ky) (w : World) (row : ArgK w (.slice aK ks.length capK) ks) : Calls Try.prog 7 #[.int .i64 x0, .int .i64 x1, .int .i64 x2, .int .i64 x3, .slice aK ks.length capK] w fun e w' => e = .returned (.bool true) ∧ Below w.heap.size w w' := by
  obtain ⟨N, hN⟩ : ∃ N, plw x0 9 = N := ⟨_, rfl⟩
  have hN8 : N ≤ 8 := by have := plw_lt x0 9 (by omega); omega
  obtain ⟨k, hk⟩ : ∃ k, plw x1 (N + 1) = k := ⟨_, rfl⟩
  have hkN : k ≤ N := by have := plw_lt x1 (N + 1) (by omega); omega
  obtain ⟨E, hE⟩ : ∃ E, plw x2 (N + 1) = E := ⟨_, rfl⟩
  have hEN : E ≤ N := by have := plw_lt x2 (N + 1) (by omega); omega
  obtain ⟨s, hs⟩ : ∃ s : Int, 1 + (plw x3 1000 : Int) = s := ⟨_, rfl⟩
  have hs1 : 0 < s := by omega
  have hs2 : s ≤ 1000 := by have := plw_lt x3 1000 (by omega); omega
  have HP0 : Hid (∀ W, Calls Try.prog 28 #[.int .i64 x0, .int .i64 9] W fun e w' => e = .returned (.int .i64 N) ∧ W = w') := fun W => by have := place_w x0 9 W (by omega) (by omega); rw [hN] at this; exact this
  have HP1 : Hid (∀ W, Calls Try.prog 28 #[.int .i64 x1, .int .i64 ((N : Int) + 1)] W fun e w' => e = .returned (.int .i64 k) ∧ W = w') := fun W => by have := place_w x1 (N + 1) W (by omega) (by omega); rw [hk] at this; exact this
  have HP2 : Hid (∀ W, Calls Try.prog 28 #[.int .i64 x2, .int .i64 ((N : Int) + 1)] W fun e w' => e = .returned (.int .i64 E) ∧ W = w') := fun W => by have := place_w x2 (N + 1) W (by omega) (by omega); rw [hE] at this; exact this
  have HP3 : Hid (∀ W, Calls Try.prog 28 #[.int .i64 x3, .int .i64 1000] W fun e w' => e = .returned (.int .i64 (s - 1)) ∧ W = w') := fun W => by have := place_w x3 1000 W (by omega) (by omega); rw [show ((plw x3 1000 : Nat) : Int) = s - 1 by omega] at this; exact this
  have hse : 1 + (s - 1) = s := by omega
  have hsw : IntKind.i64.wrap s = s := IntWalk.i64_in _ (by omega)
  have HN : Hid (Calls Try.prog 9 #[.int .i64 1, .int .i64 1, .int .i64 8] w fun e w' => e = .returned (.tuple #[.pointer (some ⟨w.heap.size, 0, none⟩), .int .i64 0]) ∧ Lt w w' w.heap.size (Ts.new 1 1 8) (fun _ => False) ∧ Below w.heap.size w w') := lt_new 1 1 8 w w (Below.refl _ _) _ (fun k hk => hk.elim) (by
    unfold newOk withB
    simp)
  have HAw : Hid (∀ W, Calls Try.prog 11 #[] W fun e w' => e = .returned (.bool true) ∧ Below W.heap.size W w') := awake_p
  have HMA : Hid (∀ W, Calls Try.prog 30 #[.int .i64 1, .int .i64 k] W fun e w' => e = .returned (.complex .f64 (floatOfInt .f64 1) (floatOfInt .f64 k)) ∧ W = w') := fun W => (mark_any 1 k W).mono fun e w' hh => ⟨hh.1, hh.2.symm⟩
  obtain ⟨nK, hnK⟩ : ∃ nK, ks.length = nK := ⟨_, rfl⟩
  have HArg : Hid (ArgK w (.slice aK nK capK) ks) := by rw [← hnK]; exact row
  have HnK : Hid (ks.length = nK) := hnK
  have hnK2 : nK ≤ 9223372036854775807 := by
    obtain ⟨_, _, _, hl, _⟩ := row
    omega
  rw [hnK]
  obtain ⟨t, ht⟩ : ∃ t, w.heap.size = t := ⟨_, rfl⟩
  have HT : Hid (w.heap.size = t) := ht
  rw [ht] at HN
  clear hN hk hE hs ht row hnK
  go_enter Try.func7, Try.ntmps7
  go_wp2_with (first
    | (go_at_call_of 28 (Value.int .i64 x0); refine (HP0.out _).mono ?_; rintro q w' ⟨rfl, rfl⟩)
    | (go_at_call_of 28 (Value.int .i64 x1); refine (HP1.out _).mono ?_; rintro q w' ⟨rfl, rfl⟩)
    | (go_at_call_of 28 (Value.int .i64 x2); refine (HP2.out _).mono ?_; rintro q w' ⟨rfl, rfl⟩)
    | (go_at_call_of 28 (Value.int .i64 x3); refine (HP3.out _).mono ?_; rintro q w' ⟨rfl, rfl⟩)
    | (go_at_call 9; refine HN.out.mono ?_; rintro q w1 ⟨rfl, hL1, hb1⟩; have H1 : Hid (Lt w w1 t (Ts.new 1 1 8) (fun _ => False)) := hL1; clear hL1 hb1)
    | (go_at_call 27; refine (breaks_p N _ hN8).mono ?_; rintro q w2 ⟨v2, ms, rfl, hm2, hc2, hb2⟩; obtain ⟨aL, cL, rfl, ho2⟩ := om_of H1.out hm2 hc2 hb2; obtain ⟨F2, hF2⟩ : ∃ F, Om w w2 t aL N cL (Ts.new 1 1 8) F ms := ⟨_, ho2⟩; have R2 : Hid (Om w w2 t aL N cL (Ts.new 1 1 8) F2 ms) := hF2; clear hm2 hc2 hb2 ho2 hF2)
    | (go_at_call 12; refine (lt_ask R2.out.lt s).mono ?_; rintro q w3 ⟨rfl, hl3, hk3⟩; have R3 : Hid (Om w w3 t aL N cL ((Ts.new 1 1 8).ask s) F2 ms) := R2.out.on hl3 hk3; obtain ⟨rb, hrb⟩ : ∃ rb, w3.heap.size = rb := ⟨_, rfl⟩; obtain ⟨W3, hW3⟩ : ∃ W3, w3.alloc (.cells #[.int .i64 0, .int .i64 0, .int .i64 0, .int .i64 0, .complex .f64 0 0, .int .i64 0, .int .i64 0, .int .i64 0, .int .i64 0, .string ⟨#[]⟩, .int .i64 0, .string ⟨#[]⟩, .int .i64 0, .string ⟨#[]⟩, .slice none 0 0, .slice none 0 0] 45) = W3 := ⟨_, rfl⟩; have hb3 := boxB hW3; obtain ⟨W4, hW4⟩ : ∃ W4, W3.setRow rb #[.int .i64 2, .int .i64 1, .int .i64 1, .int .i64 s, .complex .f64 (floatOfInt .f64 1) (floatOfInt .f64 k), .int .i64 (2 * (k : Int) + 1), .int .i64 0, .int .i64 0, .int .i64 0, .string ⟨#[]⟩, .int .i64 0, .string ⟨#[]⟩, .int .i64 0, .string ⟨#[]⟩, .slice none 0 0, .slice none 0 0] = W4 := ⟨_, rfl⟩; have HW3 : Hid (w3.alloc (.cells #[.int .i64 0, .int .i64 0, .int .i64 0, .int .i64 0, .complex .f64 0 0, .int .i64 0, .int .i64 0, .int .i64 0, .int .i64 0, .string ⟨#[]⟩, .int .i64 0, .string ⟨#[]⟩, .int .i64 0, .string ⟨#[]⟩, .slice none 0 0, .slice none 0 0] 45) = W3 ∧ w3.heap.size = rb ∧ W3.setRow rb (Hm.arr ⟨rpN s k [], none, 0, none, 0⟩) = W4) := ⟨hW3, hrb, hW4⟩; rw [hrb] at hb3; have ms4 := msgSt_of hb3.1 rfl rfl (by simp [Value.oneCell']) hW4; clear hl3 hk3 hb3 hW4)
    | (go_at_call 30; refine (HMA.out _).mono ?_; rintro q w' ⟨rfl, rfl⟩))
  obtain ⟨F, ho4, hF4, ht4, hq4, hr4⟩ := rl_start ks R3.out HW3.out.1 HW3.out.2.1 HW3.out.2.2
  have R4 : Hid (Om w W4 t aL N cL ((Ts.new 1 1 8).ask s) F ms ∧ F rb ∧ Tag W4 rb 45 ∧ (∀ q, (Value.slice aL N cL).ownBlock = some q → q ≠ rb)) := ⟨ho4, hF4, ht4, hq4⟩
  have RF4 : Hid (Rf w W4 W4 s k ks rb 0 none 0) := hr4
  clear ho4 hF4 ht4 hq4 hr4 R3 HW3 ms4 hW3 hrb HP0 HP1 HP2 HP3 HN H1 R2
  go_loopw [18] (fun s18 wr => ∃ (i : Nat) (ae : Option Addr) (ce : Nat), i ≤ nK ∧ i ≤ 20 ∧ s18 = .int .i64 i ∧ Hid (Rf w W4 wr s k ks rb i ae ce)) (fun s18 _ => 20 - (intOf s18).toNat)
  case atStart => exact ⟨0, none, 0, Nat.zero_le _, by omega, rfl, RF4.out⟩
  case round =>
    obtain ⟨i, ae, ce, hiK, hi20, rfl, HR⟩ := hrel
    by_cases hlt : i < nK ∧ i < 20
    · have hl1 : (i : Int) < (nK : Int) := by omega
      have hl2 : (i : Int) < 20 := by omega
      have hi0 : (0 : Int) ≤ (i : Int) := by omega
      obtain ⟨p, hp⟩ : ∃ p, ks[i]? = some p := ⟨_, List.getElem?_eq_getElem (by rw [HnK.out]; exact hlt.1)⟩
      obtain ⟨bK, offK, rfl, k0, k1⟩ : ∃ bK offK, aK = some ⟨bK, offK, none⟩ ∧ (∀ V, Below w.heap.size w V → V.cell? ⟨bK, offK + i * 2, none⟩ = some (.int .i64 p.d)) ∧ (∀ V, Below w.heap.size w V → V.cell? ⟨bK, offK + i * 2 + 1, none⟩ = some (.string p.nm)) := by
        obtain ⟨a', cap', e, _, hc⟩ := HArg.out
        cases e
        rcases hc with h | ⟨b, off, e, hs, hc⟩
        · rw [h] at hp; simp at hp
        · obtain ⟨g0, g1⟩ := kc_get ks i p hp
          exact ⟨b, off, e, fun V hV => (hV.cell (p := ⟨b, off + i * 2, none⟩) hs).trans (hc _ _ g0), fun V hV => by
            have := (hV.cell (p := ⟨b, off + (i * 2 + 1), none⟩) hs).trans (hc _ _ g1)
            rw [← Nat.add_assoc] at this; exact this⟩
      obtain ⟨W5, hW5⟩ : ∃ W5, wr.drew.alloc (.cells (enK p).vals.toArray 74) = W5 := ⟨_, rfl⟩
      obtain ⟨a6, q6, W6, happ, ⟨u14, c14⟩, cf14, hst⟩ := HR.out.step hp hW5 hi20
      obtain ⟨W7, hW7⟩ : ∃ W7, W6.setCell ⟨rb, 14, none⟩ (.slice a6 (esN ks (i + 1)).length q6) = W7 := ⟨_, rfl⟩
      have R7 : Hid (Rf w W4 W7 s k ks rb (i + 1) a6 q6) := hst W7 hW7
      have d14 : wr.drew.cell? ⟨rb, 14, none⟩ = some (.slice ae (esN ks i).length ce) := cell_of HR.out.box 14
      have hb5 : Below wr.heap.size wr W5 := chainB (Below.refl _ _).drew (boxB hW5).2
      have d14' : W5.cell? ⟨rb, 14, none⟩ = some (.slice ae (esN ks i).length ce) := cell_of (hkeep HR.out.box hb5) 14
      have e0 := k0 wr.drew (chainB HR.out.bel (Below.refl _ _).drew)
      have e1 := k1 wr.drew (chainB HR.out.bel (Below.refl _ _).drew)
      have hW5' : wr.drew.alloc (.cells #[.int .i64 p.d, .string p.nm, .bool true, .int .i64 0, .int .i64 0, .int .i64 0, .string ⟨#[]⟩] 74) = W5 := hW5
      obtain ⟨n0, hn0⟩ : ∃ n0, (esN ks i).length = n0 := ⟨_, rfl⟩
      obtain ⟨n6, hn6⟩ : ∃ n6, (esN ks (i + 1)).length = n6 := ⟨_, rfl⟩
      rw [hn0] at d14 d14' happ
      rw [hn6] at happ hW7
      clear hp hW5 hst hb5 k0 k1 hn0 hn6
      go_upto_region 13 with fail
      go_region_law (refine step_append_run rfl (.tmp 75) (.tmp 81) 33 rfl (.slice ae n0 ce) (.slice (some ⟨wr.heap.size, 0, none⟩) 1 1) (.slice a6 n6 q6) W6 (by simp [Act.eval]) (by simp [Act.eval]) happ ?_)
      all_goals
        go_wp2
        exact ⟨⟨i + 1, a6, q6, by omega, by omega, by simp, R7.out⟩, by simp [intOf]; omega⟩
    · obtain ⟨es, hes⟩ : ∃ es, esN ks i = es := ⟨_, rfl⟩
      have hel : es.length ≤ 20 := by rw [← hes]; exact Nat.le_trans (esN_len ks i) hi20
      obtain ⟨x, hx⟩ : ∃ x : Hm, x = ⟨rpN s k es, ae, ce, none, 0⟩ := ⟨_, rfl⟩
      have hxm : x.m = rpN s k es := by rw [hx]
      have hxe : x.ve = .slice ae es.length ce := by rw [hx]; rfl
      obtain ⟨M, hM⟩ : ∃ M, max E k = M := ⟨_, rfl⟩
      have HM : Hid (max E k = M) := hM
      have hMN : M ≤ N := by omega
      have R8 : Hid (Rl w wr t aL N cL ((Ts.new 1 1 8).ask s) F ms rb x wr.heap.size (.slice none 0 0) []) := by
        have h := HR.out
        have hbx := h.box
        rw [hes, ← hx] at hbx
        have hr := h.row
        rw [hes] at hr
        refine ⟨om_only R4.out.1 h.only R4.out.2.1 h.low R4.out.2.2.1 R4.out.2.2.2, R4.out.2.1, h.bel.size, hbx, ⟨?_, ?_, ?_, ?_⟩, Acts.nil _ _, Nat.le_refl _⟩
        · rw [hxe, hxm]; exact owns_le hr (Nat.zero_le _)
        · rw [hx]; exact World.ownsRow_nil _ _ _ _
        · rw [hxm]; show es.length * 72 ≤ LB; unfold LB; omega
        · rw [hxm]; exact Nat.zero_le _
      have HXm : Hid (x.m = rpN s k es ∧ x.ve = .slice ae es.length ce) := ⟨hxm, hxe⟩
      obtain ⟨W8, hW8⟩ : ∃ W8, W8 = wr := ⟨_, rfl⟩
      subst hW8
      have hex : (¬ (i : Int) < (nK : Int)) ∨ ((i : Int) < (nK : Int) ∧ ¬ (i : Int) < 20) := by omega
      clear hes hx hxm hxe hM HR RF4 hlt
      rcases hex with hx1 | ⟨hx1, hx2⟩
      all_goals
        go_wp2
        go_loopw [19, 20] (fun s19 s20 wr => ∃ (i c : Nat) (l : List Am), i ≤ N + 1 ∧ s20 = .int .i64 i ∧ Hid (phOk k E c (min i N) ∧ (c = 0 ↔ i ≤ E) ∧ Rl w wr t aL N cL (phS s k es c (min i N)) F ms rb x W8.heap.size s19 l ∧ l.map Am.c = phA k (max E k) es c (min i N))) (fun _ s20 _ => N + 1 - (intOf s20).toNat)
        case atStart => exact ⟨0, 0, [], Nat.zero_le _, rfl, .inl ⟨rfl, by omega⟩, ⟨fun _ => Nat.zero_le _, fun _ => rfl⟩, by rw [Nat.zero_min]; exact R8.out, by rw [Nat.zero_min]; rfl⟩
        case round =>
          obtain ⟨j, c, l, hjN, rfl, HL⟩ := hrel
          by_cases hlt2 : j ≤ N
          · have hz2 : (j : Int) ≤ (N : Int) := by omega
            have hmin : min j N = j := by omega
            have HL2 : Hid (phOk k E c j ∧ (c = 0 ↔ j ≤ E) ∧ Rl w wr t aL N cL (phS s k es c j) F ms rb x W8.heap.size u19 l ∧ l.map Am.c = phA k (max E k) es c j) := by have := HL.out; rw [hmin] at this; exact this
            have hv : ∃ a0 q0, u19 = .slice a0 l.length q0 := owns_len HL2.out.2.2.1.acts.row
            obtain ⟨a0, q0, rfl⟩ := hv
            obtain ⟨m0, hm0⟩ : ∃ m0, l.length = m0 := ⟨_, rfl⟩
            rw [hm0] at HL2
            rw [hm0]
            clear hmin HL hm0
            by_cases hjE : j = E
            · have hc0 : c = 0 := HL2.out.2.1.2 (by omega)
              subst hc0
              obtain rfl : E = j := hjE.symm
              obtain ⟨cA, hcA, hokA, hcallA⟩ := rl_rep HL2.out.2.2.1 HL2.out.2.2.2 HXm.out.1 hs1 (by omega) (by omega)
              have mlA : (msgLd (.pointer (some ⟨rb, 0, none⟩))).run Try.prog wr = .ok (.agg x.arr) wr := msgLd_of HL2.out.2.2.1.box x.size
              have HTA : Hid (Calls Try.prog 15 #[.pointer (some ⟨t, 0, none⟩), .agg x.arr] wr fun e w' => PhTk w t aL N cL s k E es cA E F ms rb x W8.heap.size (.slice a0 m0 q0) e w') := hcallA
              obtain ⟨X, hX⟩ : ∃ X, x.arr = X := ⟨_, rfl⟩
              rw [hX] at mlA HTA
              have HA0 : Hid (cA ≠ 0 ∧ phOk k E cA E) := ⟨hcA, hokA⟩
              clear hcA hokA hcallA hX
              by_cases hlt3 : E < N
              · have hz3 : (E : Int) < (N : Int) := by omega
                have hE0 : (0 : Int) ≤ (E : Int) := by omega
                obtain ⟨gL, z0, rfl, -, -, -, -⟩ := HL2.out.2.2.1.om.get E hlt3
                go_wp2_with (first
                  | (have _q := mlB; clear _q; go_at_call 15; refine HTB.out.mono ?_; rintro q w6 ⟨v6, v7, W7, l7, rfl, happ7, hm7, hr7⟩; have R7 : Hid (l7.map Am.c = phA k (max E k) es cB (E + 1) ∧ Rl w W7 t (some ⟨gL, 0, none⟩) N cL (phS s k es cB (E + 1)) F ms rb x W8.heap.size v7 l7) := ⟨hm7, hr7⟩; clear hm7 hr7 mlB)
                  | (have _q := R7; clear _q; at_builtin; refine wpList_append_run rfl (.tmp 102) (.tmp 108) 41 rfl _ _ v7 W7 rfl rfl happ7 ?_)
                  | (go_at_call 15; refine HTA.out.mono ?_; rintro q w3 ⟨v3, v4, W4', l4, rfl, happ4, hm4, hr4⟩; obtain ⟨cB, ZB, hccB, hokB, mlB0, hcB⟩ := rl_brk hr4 hm4 HA0.out.2 (fun e => absurd e HA0.out.1) hs1 (by omega) (by omega) hlt3 hN8; have hv4 : ∃ a4 q4, v4 = .slice a4 l4.length q4 := owns_len hr4.acts.row; obtain ⟨a4, q4, rfl⟩ := hv4; have HTB : Hid (Calls Try.prog 15 #[.pointer (some ⟨t, 0, none⟩), .agg ZB] W4' fun e w' => PhTk w t (some ⟨gL, 0, none⟩) N cL s k E es cB (E + 1) F ms rb x W8.heap.size (.slice a4 l4.length q4) e w') := hcB; have HB0 : Hid ((cA = 0 ↔ cB = 0) ∧ phOk k E cB (E + 1)) := ⟨hccB, hokB⟩; have HML : Hid ((msgLd (.pointer (some ⟨gL, E * 16, none⟩))).run Try.prog W4' = .ok (.agg ZB) W4') := mlB0; clear hm4 hr4 hccB hokB hcB mlA mlB0)
                  | (at_builtin; refine wpList_append_run rfl (.tmp 93) (.tmp 96) 41 rfl _ _ (.slice a4 l4.length q4) W4' rfl rfl happ4 ?_; have mlB := HML.out; clear happ4))
                have hm1 : min (E + 1) N = E + 1 := by omega
                exact ⟨⟨E + 1, cB, l7, by omega, by simp, by rw [hm1]; exact HB0.out.2, ⟨fun e => absurd (HB0.out.1.2 e) HA0.out.1, fun e => by omega⟩, by rw [hm1]; exact R7.out.2, by rw [hm1]; exact R7.out.1⟩, by simp [intOf]; omega⟩
              · have hz3 : ¬ (E : Int) < (N : Int) := by omega
                go_wp2_with (first
                  | (go_at_call 15; refine HTA.out.mono ?_; rintro q w3 ⟨v3, v4, W4', l4, rfl, happ4, hm4, hr4⟩; have R4' : Hid (l4.map Am.c = phA k (max E k) es cA E ∧ Rl w W4' t aL N cL (phS s k es cA E) F ms rb x W8.heap.size v4 l4) := ⟨hm4, hr4⟩; clear hm4 hr4 mlA)
                  | (at_builtin; refine wpList_append_run rfl (.tmp 93) (.tmp 96) 41 rfl _ _ v4 W4' rfl rfl happ4 ?_))
                have hm1 : min (E + 1) N = E := by omega
                exact ⟨⟨E + 1, cA, l4, by omega, by simp, by rw [hm1]; exact HA0.out.2, ⟨fun e => absurd e HA0.out.1, fun e => by omega⟩, by rw [hm1]; exact R4'.out.2, by rw [hm1]; exact R4'.out.1⟩, by simp [intOf]; omega⟩
            · have hjEz : ¬ (j : Int) = (E : Int) := by omega
              by_cases hlt3 : j < N
              · have hz3 : (j : Int) < (N : Int) := by omega
                have hj0 : (0 : Int) ≤ (j : Int) := by omega
                obtain ⟨gL, z0, rfl, -, -, -, -⟩ := HL2.out.2.2.1.om.get j hlt3
                obtain ⟨cB, ZB, hccB, hokB, mlB, hcB⟩ := rl_brk HL2.out.2.2.1 HL2.out.2.2.2 HL2.out.1 (fun e => by have := HL2.out.2.1.1 e; omega) hs1 (by omega) (by omega) hlt3 hN8
                have HTB : Hid (Calls Try.prog 15 #[.pointer (some ⟨t, 0, none⟩), .agg ZB] wr fun e w' => PhTk w t (some ⟨gL, 0, none⟩) N cL s k E es cB (j + 1) F ms rb x W8.heap.size (.slice a0 m0 q0) e w') := hcB
                have HB0 : Hid ((c = 0 ↔ cB = 0) ∧ phOk k E cB (j + 1)) := ⟨hccB, hokB⟩
                have HjE : Hid (¬ j = E) := hjE
                clear hccB hokB hcB hjE
                go_wp2_with (first
                  | (go_at_call 15; refine HTB.out.mono ?_; rintro q w6 ⟨v6, v7, W7, l7, rfl, happ7, hm7, hr7⟩; have R7 : Hid (l7.map Am.c = phA k (max E k) es cB (j + 1) ∧ Rl w W7 t (some ⟨gL, 0, none⟩) N cL (phS s k es cB (j + 1)) F ms rb x W8.heap.size v7 l7) := ⟨hm7, hr7⟩; clear hm7 hr7 mlB)
                  | (at_builtin; refine wpList_append_run rfl (.tmp 102) (.tmp 108) 41 rfl _ _ v7 W7 rfl rfl happ7 ?_))
                have hm1 : min (j + 1) N = j + 1 := by omega
                exact ⟨⟨j + 1, cB, l7, by omega, by simp, by rw [hm1]; exact HB0.out.2, ⟨fun e => by have h1 := HL2.out.2.1.1 (HB0.out.1.2 e); have h2 := HjE.out; omega, fun e => HB0.out.1.1 (HL2.out.2.1.2 (by omega))⟩, by rw [hm1]; exact R7.out.2, by rw [hm1]; exact R7.out.1⟩, by simp [intOf]; omega⟩
              · have hz3 : ¬ (j : Int) < (N : Int) := by omega
                have HjE : Hid (¬ j = E) := hjE
                clear hjE
                go_wp2
                have hm1 : min (j + 1) N = j := by omega
                exact ⟨⟨j + 1, c, l, by omega, by simp, by rw [hm1]; exact HL2.out.1, ⟨fun e => by have h1 := HL2.out.2.1.1 e; have h2 := HjE.out; omega, fun e => HL2.out.2.1.2 (by omega)⟩, by rw [hm1]; exact HL2.out.2.2.1, by rw [hm1]; exact HL2.out.2.2.2⟩, by simp [intOf]; omega⟩
          · have hz2 : ¬ (j : Int) ≤ (N : Int) := by omega
            have hj1 : j = N + 1 := by omega
            have R9 : Hid (Rl w wr t aL N cL (tU k N) F ms rb x W8.heap.size u19 l ∧ l.map Am.c = quA k M N es) := by
              obtain ⟨h1, h2, h3, h4⟩ := HL.out
              rw [show min j N = N by omega] at h1 h3 h4
              have hc : c = 2 := by
                rcases h1 with ⟨e, -⟩ | ⟨-, -, e⟩ | ⟨e, -, -⟩
                · have := h2.1 e; omega
                · omega
                · exact e
              subst hc
              refine ⟨h3, ?_⟩
              rw [h4, HM.out]; rfl
            obtain ⟨a9, q9, rfl⟩ := owns_len R9.out.1.acts.row
            obtain ⟨L, hL⟩ : ∃ L, l.length = L := ⟨_, rfl⟩
            have hLN : L = N + 2 := by
              have := congrArg List.length R9.out.2
              rw [List.length_map, quA_len k M N es hMN] at this
              omega
            rw [hL] at R9
            rw [hL]
            have HLl : Hid (l.length = L) := hL
            obtain ⟨el, hel1⟩ : ∃ el, es.length = el := ⟨_, rfl⟩
            have HEl : Hid (es.length = el) := hel1
            have hel2 : el ≤ 20 := by omega
            obtain ⟨W9, hW9⟩ : ∃ W9, W9 = wr := ⟨_, rfl⟩
            subst hW9
            have HLN : Hid (L = N + 2) := hLN
            have hL10 : L ≤ 10 := by omega
            clear hj1 HL hL hel1 hel hLN
            go_wp2
            go_loopw [21, 22, 23] (fun s21 s22 s23 wj => ∃ j : Nat, j ≤ L ∧ s21 = .int .i64 (rpn M j : Nat) ∧ s22 = .int .i64 (apN M j : Nat) ∧ s23 = .int .i64 j ∧ Hid (Below W9.heap.size W9 wj)) (fun _ _ s23 _ => L - (intOf s23).toNat)
            case atStart => exact ⟨0, Nat.zero_le _, by unfold rpn; rw [if_pos (by omega)]; rfl, by unfold apN; rw [if_pos (by omega)]; rfl, rfl, Below.refl _ _⟩
            case round =>
              obtain ⟨j, hjL, rfl, rfl, rfl, HB⟩ := hrel
              obtain ⟨r, hr⟩ : ∃ r, rpn M j = r := ⟨_, rfl⟩
              obtain ⟨p, hp⟩ : ∃ p, apN M j = p := ⟨_, rfl⟩
              rw [hr, hp]
              have hp20 : p ≤ 20 := by rw [← hp]; unfold apN; split <;> omega
              have hr1 : r ≤ 1 := by rw [← hr]; unfold rpn; split <;> omega
              by_cases hlt3 : j < L
              · have hz3 : (j : Int) < (L : Int) := by omega
                obtain ⟨g, z, rfl, hz, hAz, d2, d3, d4, d6, -⟩ := acts_at (R9.out.1.acts.below HB.out) R9.out.2 hlt3 HLl.out
                obtain ⟨c0, hc0, hap, hrep, hnrep, hk1⟩ := quA_get k M N es hMN j (by have := HLN.out; omega)
                obtain rfl : c0 = z.c := by rw [hc0] at hAz; exact Option.some.inj hAz
                by_cases hjM : j = M + 1
                · have hcz := hrep hjM
                  have HJM : Hid (j = M + 1) := hjM
                  have HZc : Hid (z.c = repA k M es) := hcz
                  have HZz : Hid (l[j]? = some z) := hz
                  have e2 : z.c.reply = true := by rw [hcz]; rfl
                  have e3 : z.c.whole = decide (M ≤ k) := by rw [hcz]; rfl
                  have e4 : z.c.ks.length = 0 := by rw [hcz]; rfl
                  rw [e2] at d2
                  rw [e3] at d3
                  rw [e4] at d4
                  obtain rfl : p = M := by rw [← hp, hjM]; unfold apN; rw [if_pos (by omega)]; omega
                  obtain rfl : r = 0 := by rw [← hr, hjM]; unfold rpn; rw [if_pos (by omega)]
                  clear e2 e3 e4 hcz hz hAz hc0 hap hrep hnrep hk1 hp hr hjM hp20 hr1
                  have hcs : k = p ∨ (E = p ∧ k < p) := by have := HM.out; omega
                  rcases hcs with hcs | ⟨hcs, hkp⟩
                  · subst hcs
                    rw [decide_eq_true (Nat.le_refl _)] at d3
                    obtain ⟨W10, hW10⟩ : ∃ W10, W10 = wr := ⟨_, rfl⟩
                    subst hW10
                    go_wp2
                    go_loopw [24, 25] (fun s24 s25 wq => ∃ q : Nat, q ≤ el ∧ s25 = .int .i64 q ∧ Hid (Row7 wq W10.heap.size s24 ((es.take q).filter fun e => !hitE k k e) ∧ Below W10.heap.size W10 wq)) (fun _ s25 _ => el - (intOf s25).toNat)
                    case atStart => exact ⟨0, Nat.zero_le _, rfl, World.ownsRow_nil _ _ _ _, Below.refl _ _⟩
                    case round =>
                      obtain ⟨q, hq, rfl, HQ⟩ := hrel
                      have hbq : Below W9.heap.size W9 wr := chainB HB.out HQ.out.2
                      have cb : wr.cell? ⟨rb, 14, none⟩ = some (.slice ae el ce) := by
                        rw [cell_of (hkeep R9.out.1.box hbq) 14]
                        have h1 : x.arr[14]? = some x.ve := rfl
                        rw [h1, HXm.out.2, HEl.out]
                      by_cases hlt4 : q < el
                      · have hz4 : (q : Int) < (el : Int) := by omega
                        have hq0 : (0 : Int) ≤ (q : Int) := by omega
                        obtain ⟨e, he⟩ : ∃ e, es[q]? = some e := ⟨_, List.getElem?_eq_getElem (by rw [HEl.out]; exact hlt4)⟩
                        have hrow : Row7 wr 0 (.slice ae el ce) es := by
                          have := (R9.out.1.ls.below hbq).es
                          rw [HXm.out.1, HXm.out.2, HEl.out] at this; exact this
                        obtain ⟨ge, rfl, -, -, -, hc, -⟩ := owns_entry hrow he
                        have y0 := hc.c0
                        have y1 := hc.c1
                        have y2 := hc.c2
                        have y3 := hc.c3
                        have y4 := hc.c4
                        have y5 := hc.c5
                        have y6 := hc.c6
                        obtain ⟨a5, q5, rfl⟩ := owns_len HQ.out.1
                        obtain ⟨m5, hm5⟩ : ∃ m5, ((es.take q).filter fun e => !hitE k k e).length = m5 := ⟨_, rfl⟩
                        have HQ2 : Hid (Row7 wr W10.heap.size (.slice a5 m5 q5) ((es.take q).filter fun e => !hitE k k e) ∧ Below W10.heap.size W10 wr) := by have := HQ.out; rw [hm5] at this; exact this
                        have hm20 : m5 ≤ 20 := by rw [← hm5]; exact Nat.le_trans (List.length_filter_le _ _) (by rw [List.length_take]; omega)
                        rw [hm5]
                        have HE4 : Hid (es[q]? = some e) := he
                        clear HQ hm5 he hc hrow
                        cases hhit : hitE k k e with
                        | true =>
                          have hh : ((k : Int) < e.d ∧ e.d ≤ (k : Int)) ∧ e.nm = ⟨#[107]⟩ := by
                            unfold hitE at hhit
                            simpa only [Bool.and_eq_true, decide_eq_true_iff] using hhit
                          exfalso
                          have h1 := hh.1
                          omega
                        | false =>
                          obtain ⟨W11, hW11⟩ : ∃ W11, wr.alloc (.cells e.vals.toArray 74) = W11 := ⟨_, rfl⟩
                          have hb11 := boxB hW11
                          have one : Row7 W11 0 (.slice (some ⟨wr.heap.size, 0, none⟩) 1 1) [e] := by rw [← hW11]; exact one_ent e
                          have hB10 := HQ2.out.2.size
                          obtain ⟨v12, W12, happ, hr12, ho12⟩ := ents_append (HQ2.out.1.below hb11.2) one (Nat.le_trans hB10 hb11.2.size) (by
                            have : ((es.take q).filter fun e => !hitE k k e).length ≤ 20 := Nat.le_trans (List.length_filter_le _ _) (by rw [List.length_take]; omega)
                            simp; omega)
                          have hb12 := row7_below (HQ2.out.1.below hb11.2) (HQ2.out.2.trans (hb11.2.mono hB10)) (Nat.le_trans hB10 hb11.2.size) ho12
                          have HQ3 : Hid (Row7 W12 W10.heap.size v12 ((es.take (q + 1)).filter fun e => !hitE k k e) ∧ Below W10.heap.size W10 W12) := ⟨by rw [filter_snoc HE4.out, hhit]; exact hr12, hb12⟩
                          have hW11' : wr.alloc (.cells #[.int .i64 e.d, .string e.nm, .bool e.neg, .int .i64 e.id, .int .i64 e.kind, .int .i64 e.mode, .string e.tg] 74) = W11 := hW11
                          have hno : ¬ (k : Int) < e.d ∨ ((k : Int) < e.d ∧ ¬ e.d ≤ (k : Int)) ∨ ((k : Int) < e.d ∧ e.d ≤ (k : Int) ∧ ¬ e.nm = ⟨#[107]⟩) := by
                            unfold hitE at hhit
                            by_cases g1 : (k : Int) < e.d
                            · by_cases g2 : e.d ≤ (k : Int)
                              · right; right
                                refine ⟨g1, g2, fun g3 => ?_⟩
                                rw [decide_eq_true ⟨g1, g2⟩, decide_eq_true g3] at hhit
                                cases hhit
                              · exact .inr (.inl ⟨g1, g2⟩)
                            · exact .inl g1
                          clear hb11 one hr12 ho12 hb12 hhit hW11
                          rcases hno with h1 | ⟨h1, h2⟩ | ⟨h1, h2, h3⟩
                          rotate_left 2
                          · exfalso; omega
                          all_goals
                            go_wp2_with (at_builtin; refine wpList_append_run rfl (.tmp 190) (.tmp 196) 33 rfl _ _ v12 W12 rfl rfl happ ?_)
                            exact ⟨⟨q + 1, by omega, by simp, HQ3.out⟩, by simp [intOf]; omega⟩
                      · have hz4 : ¬ (q : Int) < (el : Int) := by omega
                        have hqe : q = el := by omega
                        have hfull : es.take q = es := List.take_of_length_le (by rw [HEl.out]; omega)
                        have hrw := HQ.out.1
                        rw [hfull] at hrw
                        obtain ⟨a5, q5, rfl⟩ := owns_len hrw
                        obtain ⟨g6, z6, e6, hz6, -, -, -, -, d6, hrz⟩ := acts_at (R9.out.1.acts.below hbq) R9.out.2 hlt3 HLl.out
                        cases e6
                        obtain rfl : z6 = z := by have := HZz.out; rw [hz6] at this; exact Option.some.inj this
                        have hfl : (es.filter fun e => !hitE k k e).length ≤ 20 := Nat.le_trans (List.length_filter_le _ _) (by rw [HEl.out]; exact hel2)
                        have hes6 : z6.c.es = es.filter fun e => !hitE k k e := by rw [HZc.out]; rfl
                        have HSE : Hid (Calls Try.prog 31 #[.slice z6.ae z6.c.es.length z6.ce, .slice a5 (es.filter fun e => !hitE k k e).length q5] wr fun e w' => e = .returned (.bool true) ∧ Below wr.heap.size wr w') := by
                          have := sameE_any _ _ _ _ _ _ wr hrz hrw (by rw [hes6]; omega) (by omega)
                          rw [(sameEs_iff _ _).2 hes6] at this; exact this
                        have HBq : Hid (Below W9.heap.size W9 wr) := hbq
                        clear hqe hfull hrw hrz hfl hes6 hz6 hbq
                        go_wp2_with (go_at_call 31; refine HSE.out.mono ?_; rintro q w13 ⟨rfl, hb13⟩)
                        exact ⟨⟨j + 1, by omega, by rw [HJM.out]; unfold rpn; rw [if_neg (by omega)]; rfl, by rw [HJM.out]; unfold apN; rw [if_neg (by omega)]; simp, by simp, chainB HBq.out hb13⟩, by simp [intOf]; omega⟩
                  · subst hcs
                    have hkz : (k : Int) < (E : Int) := by omega
                    have hkb : ¬ (E : Int) = (k : Int) := by omega
                    have hkc : ¬ (E : Int) < (k : Int) := by omega
                    rw [decide_eq_false (by omega)] at d3
                    obtain ⟨W10, hW10⟩ : ∃ W10, W10 = wr := ⟨_, rfl⟩
                    subst hW10
                    go_wp2
                    go_loopw [24, 25] (fun s24 s25 wq => ∃ q : Nat, q ≤ el ∧ s25 = .int .i64 q ∧ Hid (Row7 wq W10.heap.size s24 ((es.take q).filter fun e => !hitE k E e) ∧ Below W10.heap.size W10 wq)) (fun _ s25 _ => el - (intOf s25).toNat)
                    case atStart => exact ⟨0, Nat.zero_le _, rfl, World.ownsRow_nil _ _ _ _, Below.refl _ _⟩
                    case round =>
                      obtain ⟨q, hq, rfl, HQ⟩ := hrel
                      have hbq : Below W9.heap.size W9 wr := chainB HB.out HQ.out.2
                      have cb : wr.cell? ⟨rb, 14, none⟩ = some (.slice ae el ce) := by
                        rw [cell_of (hkeep R9.out.1.box hbq) 14]
                        have h1 : x.arr[14]? = some x.ve := rfl
                        rw [h1, HXm.out.2, HEl.out]
                      by_cases hlt4 : q < el
                      · have hz4 : (q : Int) < (el : Int) := by omega
                        have hq0 : (0 : Int) ≤ (q : Int) := by omega
                        obtain ⟨e, he⟩ : ∃ e, es[q]? = some e := ⟨_, List.getElem?_eq_getElem (by rw [HEl.out]; exact hlt4)⟩
                        have hrow : Row7 wr 0 (.slice ae el ce) es := by
                          have := (R9.out.1.ls.below hbq).es
                          rw [HXm.out.1, HXm.out.2, HEl.out] at this; exact this
                        obtain ⟨ge, rfl, -, -, -, hc, -⟩ := owns_entry hrow he
                        have y0 := hc.c0
                        have y1 := hc.c1
                        have y2 := hc.c2
                        have y3 := hc.c3
                        have y4 := hc.c4
                        have y5 := hc.c5
                        have y6 := hc.c6
                        obtain ⟨a5, q5, rfl⟩ := owns_len HQ.out.1
                        obtain ⟨m5, hm5⟩ : ∃ m5, ((es.take q).filter fun e => !hitE k E e).length = m5 := ⟨_, rfl⟩
                        have HQ2 : Hid (Row7 wr W10.heap.size (.slice a5 m5 q5) ((es.take q).filter fun e => !hitE k E e) ∧ Below W10.heap.size W10 wr) := by have := HQ.out; rw [hm5] at this; exact this
                        have hm20 : m5 ≤ 20 := by rw [← hm5]; exact Nat.le_trans (List.length_filter_le _ _) (by rw [List.length_take]; omega)
                        rw [hm5]
                        have HE4 : Hid (es[q]? = some e) := he
                        clear HQ hm5 he hc hrow
                        cases hhit : hitE k E e with
                        | true =>
                          have hh : ((k : Int) < e.d ∧ e.d ≤ (E : Int)) ∧ e.nm = ⟨#[107]⟩ := by
                            unfold hitE at hhit
                            simpa only [Bool.and_eq_true, decide_eq_true_iff] using hhit
                          have HF0 : ((es.take (q + 1)).filter fun e => !hitE k E e) = (es.take q).filter fun e => !hitE k E e := by rw [filter_snoc HE4.out]; simp [hhit]
                          have HF : Hid _ := HF0
                          have h1 := hh.1.1
                          have h2 := hh.1.2
                          rw [hh.2] at y1
                          clear hhit hh HF0
                          go_wp2
                          exact ⟨⟨q + 1, by omega, by simp, by rw [HF.out]; exact HQ2.out⟩, by simp [intOf]; omega⟩
                        | false =>
                          obtain ⟨W11, hW11⟩ : ∃ W11, wr.alloc (.cells e.vals.toArray 74) = W11 := ⟨_, rfl⟩
                          have hb11 := boxB hW11
                          have one : Row7 W11 0 (.slice (some ⟨wr.heap.size, 0, none⟩) 1 1) [e] := by rw [← hW11]; exact one_ent e
                          have hB10 := HQ2.out.2.size
                          obtain ⟨v12, W12, happ, hr12, ho12⟩ := ents_append (HQ2.out.1.below hb11.2) one (Nat.le_trans hB10 hb11.2.size) (by
                            have : ((es.take q).filter fun e => !hitE k E e).length ≤ 20 := Nat.le_trans (List.length_filter_le _ _) (by rw [List.length_take]; omega)
                            simp; omega)
                          have hb12 := row7_below (HQ2.out.1.below hb11.2) (HQ2.out.2.trans (hb11.2.mono hB10)) (Nat.le_trans hB10 hb11.2.size) ho12
                          have HQ3 : Hid (Row7 W12 W10.heap.size v12 ((es.take (q + 1)).filter fun e => !hitE k E e) ∧ Below W10.heap.size W10 W12) := ⟨by rw [filter_snoc HE4.out, hhit]; exact hr12, hb12⟩
                          have hW11' : wr.alloc (.cells #[.int .i64 e.d, .string e.nm, .bool e.neg, .int .i64 e.id, .int .i64 e.kind, .int .i64 e.mode, .string e.tg] 74) = W11 := hW11
                          have hno : ¬ (k : Int) < e.d ∨ ((k : Int) < e.d ∧ ¬ e.d ≤ (E : Int)) ∨ ((k : Int) < e.d ∧ e.d ≤ (E : Int) ∧ ¬ e.nm = ⟨#[107]⟩) := by
                            unfold hitE at hhit
                            by_cases g1 : (k : Int) < e.d
                            · by_cases g2 : e.d ≤ (E : Int)
                              · right; right
                                refine ⟨g1, g2, fun g3 => ?_⟩
                                rw [decide_eq_true ⟨g1, g2⟩, decide_eq_true g3] at hhit
                                cases hhit
                              · exact .inr (.inl ⟨g1, g2⟩)
                            · exact .inl g1
                          clear hb11 one hr12 ho12 hb12 hhit hW11
                          rcases hno with h1 | ⟨h1, h2⟩ | ⟨h1, h2, h3⟩
                          rotate_left 2
                          · have h4 : (e.nm.toList == [107]) = false := nm_no h3
                            clear h3
                            go_wp2_with (at_builtin; refine wpList_append_run rfl (.tmp 190) (.tmp 196) 33 rfl _ _ v12 W12 rfl rfl happ ?_)
                            exact ⟨⟨q + 1, by omega, by simp, HQ3.out⟩, by simp [intOf]; omega⟩
                          all_goals
                            go_wp2_with (at_builtin; refine wpList_append_run rfl (.tmp 190) (.tmp 196) 33 rfl _ _ v12 W12 rfl rfl happ ?_)
                            exact ⟨⟨q + 1, by omega, by simp, HQ3.out⟩, by simp [intOf]; omega⟩
                      · have hz4 : ¬ (q : Int) < (el : Int) := by omega
                        have hqe : q = el := by omega
                        have hfull : es.take q = es := List.take_of_length_le (by rw [HEl.out]; omega)
                        have hrw := HQ.out.1
                        rw [hfull] at hrw
                        obtain ⟨a5, q5, rfl⟩ := owns_len hrw
                        obtain ⟨g6, z6, e6, hz6, -, -, -, -, d6, hrz⟩ := acts_at (R9.out.1.acts.below hbq) R9.out.2 hlt3 HLl.out
                        cases e6
                        obtain rfl : z6 = z := by have := HZz.out; rw [hz6] at this; exact Option.some.inj this
                        have hfl : (es.filter fun e => !hitE k E e).length ≤ 20 := Nat.le_trans (List.length_filter_le _ _) (by rw [HEl.out]; exact hel2)
                        have hes6 : z6.c.es = es.filter fun e => !hitE k E e := by rw [HZc.out]; rfl
                        have HSE : Hid (Calls Try.prog 31 #[.slice z6.ae z6.c.es.length z6.ce, .slice a5 (es.filter fun e => !hitE k E e).length q5] wr fun e w' => e = .returned (.bool true) ∧ Below wr.heap.size wr w') := by
                          have := sameE_any _ _ _ _ _ _ wr hrz hrw (by rw [hes6]; omega) (by omega)
                          rw [(sameEs_iff _ _).2 hes6] at this; exact this
                        have HBq : Hid (Below W9.heap.size W9 wr) := hbq
                        clear hqe hfull hrw hrz hfl hes6 hz6 hbq
                        go_wp2_with (go_at_call 31; refine HSE.out.mono ?_; rintro q w13 ⟨rfl, hb13⟩)
                        exact ⟨⟨j + 1, by omega, by rw [HJM.out]; unfold rpn; rw [if_neg (by omega)]; rfl, by rw [HJM.out]; unfold apN; rw [if_neg (by omega)]; simp, by simp, chainB HBq.out hb13⟩, by simp [intOf]; omega⟩
                · have e2 := hnrep hjM
                  rw [e2] at d2
                  obtain ⟨p', hp'⟩ : ∃ p', apN M (j + 1) = p' := ⟨_, rfl⟩
                  obtain ⟨kl, hkl⟩ : ∃ kl, z.c.ks.length = kl := ⟨_, rfl⟩
                  rw [hkl] at d4 hap hk1
                  have hpp : (p : Int) + (kl : Int) = (p' : Int) := by rw [hp', hp] at hap; omega
                  have hpw : IntKind.i64.wrap (p' : Int) = (p' : Int) := IntWalk.i64_in _ (by omega)
                  have HP' : Hid (apN M (j + 1) = p' ∧ rpn M (j + 1) = r) := ⟨hp', by
                    rw [← hr]; unfold rpn
                    by_cases hh : j ≤ M + 1
                    · rw [if_pos hh, if_pos (by omega)]
                    · rw [if_neg hh, if_neg (by omega)]⟩
                  clear hz hAz hc0 hap hrep hnrep hk1 hp hr hjM e2 hp' hkl d3 d6
                  go_wp2
                  exact ⟨⟨j + 1, by omega, by rw [HP'.out.2], by rw [HP'.out.1], by simp, HB.out⟩, by simp [intOf]; omega⟩
              · have hz3 : ¬ (j : Int) < (L : Int) := by omega
                obtain rfl : r = 1 := by rw [← hr]; unfold rpn; rw [if_neg (by have := HLN.out; omega)]
                have R12 : Hid (Lt w wr t (tU k N) F) := R9.out.1.om.lt.below HB.out
                have HCq : Hid (Calls Try.prog 22 #[.pointer (some ⟨t, 0, none⟩)] wr fun e w' => e = .returned (.int .i64 0) ∧ wr = w') := lt_asked R12.out
                obtain ⟨vv, hvv⟩ : ∃ vv, (tU k N).ver = vv := ⟨_, rfl⟩
                have hvv2 : 2 * (k : Int) + 1 ≤ vv := by rw [← hvv]; show 2 * (k : Int) + 1 ≤ max (2 * (N : Int)) (2 * (k : Int) + 1); omega
                have HCv : Hid (Calls Try.prog 20 #[.pointer (some ⟨t, 0, none⟩)] wr fun e w' => e = .returned (.int .i64 vv) ∧ wr = w') := by have := lt_version R12.out; rw [hvv] at this; exact this
                clear hp hr hp20 hr1 hvv
                go_wp2_with (first
                  | (go_at_call 22; refine HCq.out.mono ?_; rintro q w' ⟨rfl, rfl⟩)
                  | (go_at_call 20; refine HCv.out.mono ?_; rintro q w' ⟨rfl, rfl⟩)
                  | (go_at_call 11; refine (HAw.out _).mono ?_; rintro q w12 ⟨rfl, hb12⟩))
                go_ret
                exact ⟨rfl, chainB R12.out.bel hb12⟩
theorem walk_TideReplies (x0 x1 x2 x3 : Int) (v : Value) (ks : List Ky) (w : World) (_ : (Lit.int .i64 x0).wf = true) (_ : (Lit.int .i64 x1).wf = true) (_ : (Lit.int .i64 x2).wf = true) (_ : (Lit.int .i64 x3).wf = true) (row : ArgK w v ks) (_ : ∀ a n c, v = .slice a n c → n ≤ c) : Calls Try.prog 7 #[.int .i64 x0, .int .i64 x1, .int .i64 x2, .int .i64 x3, v] w fun e w' => e = .returned (.bool true) ∧ Below w.heap.size w w' := by
  obtain ⟨a, cap, rfl, _⟩ := id row
  exact replies_walk x0 x1 x2 x3 a cap ks w row
end
end Go.Proofs.Ytnklhdoiggomkaa
