/- Messages as plain data, in memory; their copies; M.Msg(). -/
import Derived.Test.YtpmcecenhgppbaaJTEpt20
namespace Go.Proofs.Ytpmcecenhgppbaa
section
open Go.RowKit Go.Shelf

/-- entries, keys that came in -/
def ArgE (w : World) (v : Value) (es : List En) : Prop := ∃ a cap, v = .slice a es.length cap ∧ es.length * 72 ≤ 140737488351232 ∧ (es = [] ∨ ∃ b off, a = some ⟨b, off, none⟩ ∧ b < w.heap.size ∧ ∀ j u, (ec es)[j]? = some u → w.cell? ⟨b, off + j, none⟩ = some u)
def ArgK (w : World) (v : Value) (ks : List Ky) : Prop := ∃ a cap, v = .slice a ks.length cap ∧ ks.length * 24 ≤ 140737488351232 ∧ (ks = [] ∨ ∃ b off, a = some ⟨b, off, none⟩ ∧ b < w.heap.size ∧ ∀ j u, (kc ks)[j]? = some u → w.cell? ⟨b, off + j, none⟩ = some u)
theorem ArgE.below {w w' : World} {v : Value} {es : List En} (h : ArgE w v es) (hb : Below w.heap.size w w') : ArgE w' v es := by
  obtain ⟨a, cap, rfl, hl, h⟩ := h
  refine ⟨a, cap, rfl, hl, ?_⟩
  rcases h with h | ⟨b, off, rfl, hg, hc⟩
  · exact .inl h
  · exact .inr ⟨b, off, rfl, Nat.lt_of_lt_of_le hg hb.size, fun j u hu => (hb.cell (p := ⟨b, off + j, none⟩) hg).trans (hc j u hu)⟩
theorem ArgK.below {w w' : World} {v : Value} {es : List Ky} (h : ArgK w v es) (hb : Below w.heap.size w w') : ArgK w' v es := by
  obtain ⟨a, cap, rfl, hl, h⟩ := h
  refine ⟨a, cap, rfl, hl, ?_⟩
  rcases h with h | ⟨b, off, rfl, hg, hc⟩
  · exact .inl h
  · exact .inr ⟨b, off, rfl, Nat.lt_of_lt_of_le hg hb.size, fun j u hu => (hb.cell (p := ⟨b, off + j, none⟩) hg).trans (hc j u hu)⟩
set_option maxRecDepth 20000 in
set_option maxHeartbeats 4000000 in
theorem copyE_any (v : Value) (es : List En) (w : World) (h : ArgE w v es) :
    Calls Try.prog 32 #[v] w fun e w' => ∃ v', e = .returned v' ∧ Row7 w' w.heap.size v' es ∧ Below w.heap.size w w' := by
  obtain ⟨i1, hi1, hw0, hw1, hw2⟩ := info_parts Try.infoE
  obtain ⟨a, cap, rfl, hl, hc⟩ := h
  by_cases h0 : a = none
  · subst h0
    have he : es = [] := by
      rcases hc with h | ⟨b, off, e, _⟩
      · exact h
      · cases e
    subst he
    clear hc
    go_enter Try.func32, Try.ntmps32
    go_wp2
    go_ret
    exact ⟨_, rfl, World.ownsRow_nil _ _ _ _, Below.refl _ _⟩
  · obtain ⟨ad, rfl⟩ : ∃ ad, a = some ad := by cases a with | none => exact absurd rfl h0 | some x => exact ⟨x, rfl⟩
    have HC : Hid (∀ j u, (ec es)[j]? = some u → w.cell? (ad.add j) = some u) := by
      rcases hc with h | ⟨b, off, e, _, hc⟩
      · subst h; intro j u hu; simp [ec] at hu
      · cases e; intro j u hu; rw [add_plain']; exact hc j u hu
    obtain ⟨n, hn⟩ : ∃ n, es.length = n := ⟨_, rfl⟩
    have HN : Hid (es.length = n ∧ (ec es).length = n * 7) := ⟨hn, by rw [ec_len, hn]⟩
    rw [hn] at hl ⊢
    clear hc h0 hn
    go_enter Try.func32, Try.ntmps32
    go_wp2_with (at_builtin; refine wpList_append_own _ rfl _ _ 33 rfl w.heap.size 57 i1 _ 7 72 Try.underlying33 hi1 hw0 hw1 hw2 rfl (by decide) _ 0 [] rfl (World.ownsRow_nil _ _ _ _) ad n cap (ec es) rfl HN.out.2 HC.out (ec_one es) (by unfold maxLen; omega) (by omega) (Nat.le_refl _) ?_; intro v' w1 hown hgrow _; obtain ⟨av, cv, hv⟩ := owns_len hown; subst hv)
    go_ret
    refine ⟨_, rfl, ?_, below_grown hgrow⟩
    rw [Nat.zero_add, List.nil_append] at hown
    show World.ownsRow _ _ _ _ _ _ _
    rw [HN.out.1]; exact hown
set_option maxRecDepth 20000 in
set_option maxHeartbeats 4000000 in
theorem copyK_any (v : Value) (es : List Ky) (w : World) (h : ArgK w v es) :
    Calls Try.prog 33 #[v] w fun e w' => ∃ v', e = .returned v' ∧ RowK w' w.heap.size v' es ∧ Below w.heap.size w w' := by
  obtain ⟨i1, hi1, hw0, hw1, hw2⟩ := info_parts Try.infoKy
  obtain ⟨a, cap, rfl, hl, hc⟩ := h
  by_cases h0 : a = none
  · subst h0
    have he : es = [] := by
      rcases hc with h | ⟨b, off, e, _⟩
      · exact h
      · cases e
    subst he
    clear hc
    go_enter Try.func33, Try.ntmps33
    go_wp2
    go_ret
    exact ⟨_, rfl, World.ownsRow_nil _ _ _ _, Below.refl _ _⟩
  · obtain ⟨ad, rfl⟩ : ∃ ad, a = some ad := by cases a with | none => exact absurd rfl h0 | some x => exact ⟨x, rfl⟩
    have HC : Hid (∀ j u, (kc es)[j]? = some u → w.cell? (ad.add j) = some u) := by
      rcases hc with h | ⟨b, off, e, _, hc⟩
      · subst h; intro j u hu; simp [kc] at hu
      · cases e; intro j u hu; rw [add_plain']; exact hc j u hu
    obtain ⟨n, hn⟩ : ∃ n, es.length = n := ⟨_, rfl⟩
    have HN : Hid (es.length = n ∧ (kc es).length = n * 2) := ⟨hn, by rw [kc_len, hn]⟩
    rw [hn] at hl ⊢
    clear hc h0 hn
    go_enter Try.func33, Try.ntmps33
    go_wp2_with (at_builtin; refine wpList_append_own _ rfl _ _ 34 rfl w.heap.size 53 i1 _ 2 24 Try.underlying34 hi1 hw0 hw1 hw2 rfl (by decide) _ 0 [] rfl (World.ownsRow_nil _ _ _ _) ad n cap (kc es) rfl HN.out.2 HC.out (kc_one es) (by unfold maxLen; omega) (by omega) (Nat.le_refl _) ?_; intro v' w1 hown hgrow _; obtain ⟨av, cv, hv⟩ := owns_len hown; subst hv)
    go_ret
    refine ⟨_, rfl, ?_, below_grown hgrow⟩
    rw [Nat.zero_add, List.nil_append] at hown
    show World.ownsRow _ _ _ _ _ _ _
    rw [HN.out.1]; exact hown
theorem row7_tag {w w' : World} {b : Nat} {u : Value} {es : List En} {S : Nat → Prop} (h : Row7 w b u es) (hO : Only S w w') (hS : ∀ k, S k → Tag w k 45) : Row7 w' b u es := owns_moved h fun q hq => hO.block q (Tag.own h hq).lt (fun e => (Tag.own h hq).ne (hS q e) (by decide) rfl)
theorem rowK_tag {w w' : World} {b : Nat} {u : Value} {es : List Ky} {S : Nat → Prop} (h : RowK w b u es) (hO : Only S w w') (hS : ∀ k, S k → Tag w k 45) : RowK w' b u es := owns_moved h fun q hq => hO.block q (Tag.own h hq).lt (fun e => (Tag.own h hq).ne (hS q e) (by decide) rfl)
/-- values laid over a row, one behind the other -/
def putC (g : Nat) : Nat → List Value → World → World
  | _, [], w => w
  | i, x :: xs, w => putC g (i + 1) xs (w.setCell ⟨g, i, none⟩ x)
theorem putC_heap {g : Nat} {T : TypeId} : ∀ (xs ys zs : List Value) (w : World), w.heap[g]? = some (.cells (ys ++ zs).toArray T (0, 0)) → xs.length = zs.length → (putC g ys.length xs w).heap[g]? = some (.cells (ys ++ xs).toArray T (0, 0)) := by
  intro xs
  induction xs with
  | nil =>
    intro ys zs w h hl
    obtain rfl : zs = [] := List.length_eq_zero_iff.1 hl.symm
    exact h
  | cons x xs ih =>
    intro ys zs w h hl
    cases zs with
    | nil => cases hl
    | cons z zs =>
      have h1 := heap_set h ys.length x
      have e : ((ys ++ z :: zs).toArray.setIfInBounds ys.length x) = ((ys ++ [x]) ++ zs).toArray := by
        rw [List.setIfInBounds_toArray, List.set_append_right _ _ (Nat.le_refl _), Nat.sub_self, List.set_cons_zero]
        simp
      rw [e] at h1
      have := ih (ys ++ [x]) zs _ h1 (by simpa using hl)
      rw [List.length_append] at this
      simpa [putC] using this
theorem putC_all {g : Nat} {T : TypeId} {xs zs : List Value} {w : World} (h : w.heap[g]? = some (.cells zs.toArray T (0, 0))) (hl : xs.length = zs.length) : (putC g 0 xs w).heap[g]? = some (.cells xs.toArray T (0, 0)) := putC_heap xs [] zs w h hl
theorem putC_only (g : Nat) : ∀ (xs : List Value) (i : Nat) (w : World), Only (· = g) w (putC g i xs w) := by
  intro xs
  induction xs with
  | nil => intro i w; exact Only.refl _ _
  | cons x xs ih => intro i w; exact (only1 w g i x).trans (ih _ _)
set_option maxRecDepth 20000 in
set_option maxHeartbeats 16000000 in
attribute [local go_sem high] run_store_complex
/-- a message as plain data, that came in -/
structure Mm where
  kind : Int
  client : Int
  life : Int
  seq : Int
  ep : Int
  nb : Int
  vers : Int
  err : Int
  op : Opn
  ve : Value
  vk : Value
  es : List En
  ks : List Ky
def Mm.arr (m : Mm) : Array Value := #[.int .i64 m.kind, .int .i64 m.client, .int .i64 m.life, .int .i64 m.seq, .int .i64 m.ep, .int .i64 m.nb, .int .i64 m.vers, .int .i64 m.err, .int .i64 m.op.kind, .int .i64 m.op.dir, .string m.op.nm, .int .i64 m.op.dst, .string m.op.new, .int .i64 m.op.mode, .string m.op.tg, m.ve, m.vk]
structure ArgM (w : World) (m : Mm) : Prop where
  es : ArgE w m.ve m.es
  ks : ArgK w m.vk m.ks
theorem ArgM.below {w w' : World} {m : Mm} (h : ArgM w m) (hb : Below w.heap.size w w') : ArgM w' m := ⟨h.es.below hb, h.ks.below hb⟩
/-- the message -/
def Mm.pm (m : Mm) : Pm := ⟨m.kind, m.client, m.life, m.seq, floatOfInt .f64 m.ep, floatOfInt .f64 m.nb, m.vers, m.err, m.op, m.es, m.ks⟩
set_option maxRecDepth 20000 in
set_option maxHeartbeats 16000000 in
theorem msg_any (m : Mm) (w : World) (h : ArgM w m) : Calls Try.prog 13 #[.agg m.arr] w fun e w' => ∃ ve vk, e = .returned (.agg (m.pm.arr ve vk)) ∧ Row7 w' w.heap.size ve m.es ∧ RowK w' w.heap.size vk m.ks ∧ Below w.heap.size w w' := by
  obtain ⟨ae, ce, he, _⟩ := id h.es
  obtain ⟨ak, ck, hk, _⟩ := id h.ks
  obtain ⟨kind, client, life, seq, ep, nb, vers, err, op, ve, vk, es, ks⟩ := m
  simp only [] at he hk
  subst he hk
  unfold Mm.arr
  simp only []
  obtain ⟨W, hW⟩ : ∃ W, w.alloc (.cells #[.int .i64 kind, .int .i64 client, .int .i64 life, .int .i64 seq, .int .i64 ep, .int .i64 nb, .int .i64 vers, .int .i64 err, .int .i64 op.kind, .int .i64 op.dir, .string op.nm, .int .i64 op.dst, .string op.new, .int .i64 op.mode, .string op.tg, .slice ae es.length ce, .slice ak ks.length ck] 36) = W := ⟨_, rfl⟩
  obtain ⟨W2, hW2⟩ : ∃ W2, W.alloc (.cells #[.int .i64 0, .int .i64 0, .int .i64 0, .int .i64 0, .complex .f64 0 0, .int .i64 0, .int .i64 0, .int .i64 0, .int .i64 0, .string ⟨#[]⟩, .int .i64 0, .string ⟨#[]⟩, .int .i64 0, .string ⟨#[]⟩, .slice none 0 0, .slice none 0 0] 45) = W2 := ⟨_, rfl⟩
  have hb := boxB hW
  have hb2 := boxB hW2
  have HBx : Hid (W2.heap[w.heap.size]? = some (.cells #[.int .i64 kind, .int .i64 client, .int .i64 life, .int .i64 seq, .int .i64 ep, .int .i64 nb, .int .i64 vers, .int .i64 err, .int .i64 op.kind, .int .i64 op.dir, .string op.nm, .int .i64 op.dst, .string op.new, .int .i64 op.mode, .string op.tg, .slice ae es.length ce, .slice ak ks.length ck] 36 (0, 0)) ∧ W2.heap[W.heap.size]? = some (.cells #[.int .i64 0, .int .i64 0, .int .i64 0, .int .i64 0, .complex .f64 0 0, .int .i64 0, .int .i64 0, .int .i64 0, .int .i64 0, .string ⟨#[]⟩, .int .i64 0, .string ⟨#[]⟩, .int .i64 0, .string ⟨#[]⟩, .slice none 0 0, .slice none 0 0] 45 (0, 0)) ∧ Below w.heap.size w W2 ∧ w.heap.size < W.heap.size) := ⟨hkeep hb.1 hb2.2, hb2.1, chainB hb.2 hb2.2, (Array.getElem?_eq_some_iff.1 hb.1).1⟩
  have HKp : Hid (∀ w', Below W2.heap.size W2 w' → w'.cell? ⟨w.heap.size, 0, none⟩ = some (.int .i64 kind) ∧ w'.cell? ⟨w.heap.size, 1, none⟩ = some (.int .i64 client) ∧ w'.cell? ⟨w.heap.size, 2, none⟩ = some (.int .i64 life) ∧ w'.cell? ⟨w.heap.size, 3, none⟩ = some (.int .i64 seq) ∧ w'.cell? ⟨w.heap.size, 4, none⟩ = some (.int .i64 ep) ∧ w'.cell? ⟨w.heap.size, 5, none⟩ = some (.int .i64 nb) ∧ w'.cell? ⟨w.heap.size, 6, none⟩ = some (.int .i64 vers) ∧ w'.cell? ⟨w.heap.size, 7, none⟩ = some (.int .i64 err) ∧ w'.cell? ⟨w.heap.size, 8, none⟩ = some (.int .i64 op.kind) ∧ w'.cell? ⟨w.heap.size, 9, none⟩ = some (.int .i64 op.dir) ∧ w'.cell? ⟨w.heap.size, 10, none⟩ = some (.string op.nm) ∧ w'.cell? ⟨w.heap.size, 11, none⟩ = some (.int .i64 op.dst) ∧ w'.cell? ⟨w.heap.size, 12, none⟩ = some (.string op.new) ∧ w'.cell? ⟨w.heap.size, 13, none⟩ = some (.int .i64 op.mode) ∧ w'.cell? ⟨w.heap.size, 14, none⟩ = some (.string op.tg) ∧ w'.cell? ⟨w.heap.size, 15, none⟩ = some (.slice ae es.length ce) ∧ w'.cell? ⟨w.heap.size, 16, none⟩ = some (.slice ak ks.length ck) ∧ Below w.heap.size w w') := fun w' hb' => by
    have hx := hkeep HBx.out.1 hb'
    have s0 := cell_of hx 0
    have s1 := cell_of hx 1
    have s2 := cell_of hx 2
    have s3 := cell_of hx 3
    have s4 := cell_of hx 4
    have s5 := cell_of hx 5
    have s6 := cell_of hx 6
    have s7 := cell_of hx 7
    have s8 := cell_of hx 8
    have s9 := cell_of hx 9
    have s10 := cell_of hx 10
    have s11 := cell_of hx 11
    have s12 := cell_of hx 12
    have s13 := cell_of hx 13
    have s14 := cell_of hx 14
    have s15 := cell_of hx 15
    have s16 := cell_of hx 16
    simp at s0 s1 s2 s3 s4 s5 s6 s7 s8 s9 s10 s11 s12 s13 s14 s15 s16
    exact ⟨s0, s1, s2, s3, s4, s5, s6, s7, s8, s9, s10, s11, s12, s13, s14, s15, s16, chainB HBx.out.2.2.1 hb'⟩
  have HMk : Hid (∀ W, Calls Try.prog 31 #[.int .i64 ep, .int .i64 nb] W fun e w' => e = .returned (.complex .f64 (floatOfInt .f64 ep) (floatOfInt .f64 nb)) ∧ W = w') := fun W => (mark_any ep nb W).mono fun e w' hh => ⟨hh.1, hh.2.symm⟩
  have HCe : Hid (∀ W3, Below W2.heap.size W2 W3 → Calls Try.prog 32 #[.slice ae es.length ce] W3 fun e w' => ∃ a c, e = .returned (.slice a es.length c) ∧ Row7 w' W3.heap.size (.slice a es.length c) es ∧ Below W3.heap.size W3 w') := fun W3 h3 => (copyE_any _ es W3 (h.es.below (chainB HBx.out.2.2.1 h3))).mono fun e w' ⟨v', he, hr, hb⟩ => by
    obtain ⟨a, c, rfl⟩ := owns_len hr
    exact ⟨a, c, he, hr, hb⟩
  have HCk : Hid (∀ W3, Below W2.heap.size W2 W3 → Calls Try.prog 33 #[.slice ak ks.length ck] W3 fun e w' => ∃ a c, e = .returned (.slice a ks.length c) ∧ RowK w' W3.heap.size (.slice a ks.length c) ks ∧ Below W3.heap.size W3 w') := fun W3 h3 => (copyK_any _ ks W3 (h.ks.below (chainB HBx.out.2.2.1 h3))).mono fun e w' ⟨v', he, hr, hb⟩ => by
    obtain ⟨a, c, rfl⟩ := owns_len hr
    exact ⟨a, c, he, hr, hb⟩
  have hd : Below W2.heap.size W2 W2.drew := (Below.refl _ _).drew
  have k0 := HKp.out _ hd
  have HPut : Hid (∀ w3, Below W2.heap.size W2 w3 → ∀ (xs : List Value), let w' := putC W.heap.size 0 xs w3; w'.cell? ⟨w.heap.size, 0, none⟩ = some (.int .i64 kind) ∧ w'.cell? ⟨w.heap.size, 1, none⟩ = some (.int .i64 client) ∧ w'.cell? ⟨w.heap.size, 2, none⟩ = some (.int .i64 life) ∧ w'.cell? ⟨w.heap.size, 3, none⟩ = some (.int .i64 seq) ∧ w'.cell? ⟨w.heap.size, 4, none⟩ = some (.int .i64 ep) ∧ w'.cell? ⟨w.heap.size, 5, none⟩ = some (.int .i64 nb) ∧ w'.cell? ⟨w.heap.size, 6, none⟩ = some (.int .i64 vers) ∧ w'.cell? ⟨w.heap.size, 7, none⟩ = some (.int .i64 err) ∧ w'.cell? ⟨w.heap.size, 8, none⟩ = some (.int .i64 op.kind) ∧ w'.cell? ⟨w.heap.size, 9, none⟩ = some (.int .i64 op.dir) ∧ w'.cell? ⟨w.heap.size, 10, none⟩ = some (.string op.nm) ∧ w'.cell? ⟨w.heap.size, 11, none⟩ = some (.int .i64 op.dst) ∧ w'.cell? ⟨w.heap.size, 12, none⟩ = some (.string op.new) ∧ w'.cell? ⟨w.heap.size, 13, none⟩ = some (.int .i64 op.mode) ∧ w'.cell? ⟨w.heap.size, 14, none⟩ = some (.string op.tg) ∧ w'.cell? ⟨w.heap.size, 15, none⟩ = some (.slice ae es.length ce) ∧ w'.cell? ⟨w.heap.size, 16, none⟩ = some (.slice ak ks.length ck) ∧ Below w.heap.size w w') := fun w3 h3 xs => by
    have hx := hkeep HBx.out.1 h3
    have ho := putC_only W.heap.size xs 0 w3
    have hlt := HBx.out.2.2.2
    have hy : (putC W.heap.size 0 xs w3).heap[w.heap.size]? = some (.cells #[.int .i64 kind, .int .i64 client, .int .i64 life, .int .i64 seq, .int .i64 ep, .int .i64 nb, .int .i64 vers, .int .i64 err, .int .i64 op.kind, .int .i64 op.dir, .string op.nm, .int .i64 op.dst, .string op.new, .int .i64 op.mode, .string op.tg, .slice ae es.length ce, .slice ak ks.length ck] 36 (0, 0)) := (ho.block _ (Array.getElem?_eq_some_iff.1 hx).1 (by omega)).trans hx
    have s0 := cell_of hy 0
    have s1 := cell_of hy 1
    have s2 := cell_of hy 2
    have s3 := cell_of hy 3
    have s4 := cell_of hy 4
    have s5 := cell_of hy 5
    have s6 := cell_of hy 6
    have s7 := cell_of hy 7
    have s8 := cell_of hy 8
    have s9 := cell_of hy 9
    have s10 := cell_of hy 10
    have s11 := cell_of hy 11
    have s12 := cell_of hy 12
    have s13 := cell_of hy 13
    have s14 := cell_of hy 14
    have s15 := cell_of hy 15
    have s16 := cell_of hy 16
    simp at s0 s1 s2 s3 s4 s5 s6 s7 s8 s9 s10 s11 s12 s13 s14 s15 s16
    exact ⟨s0, s1, s2, s3, s4, s5, s6, s7, s8, s9, s10, s11, s12, s13, s14, s15, s16, ho.below (chainB HBx.out.2.2.1 h3) (chainB HBx.out.2.2.1 h3).size (fun k hk => by omega)⟩
  clear h hb hb2
  go_enter Try.func13, Try.ntmps13
  go_upto_region 1 with fail
  clear hW hW2
  go_region_held3 (fun w' => w'.cell? ⟨w.heap.size, 0, none⟩ = some (.int .i64 kind) ∧ w'.cell? ⟨w.heap.size, 1, none⟩ = some (.int .i64 client) ∧ w'.cell? ⟨w.heap.size, 2, none⟩ = some (.int .i64 life) ∧ w'.cell? ⟨w.heap.size, 3, none⟩ = some (.int .i64 seq) ∧ w'.cell? ⟨w.heap.size, 4, none⟩ = some (.int .i64 ep) ∧ w'.cell? ⟨w.heap.size, 5, none⟩ = some (.int .i64 nb) ∧ w'.cell? ⟨w.heap.size, 6, none⟩ = some (.int .i64 vers) ∧ w'.cell? ⟨w.heap.size, 7, none⟩ = some (.int .i64 err) ∧ w'.cell? ⟨w.heap.size, 8, none⟩ = some (.int .i64 op.kind) ∧ w'.cell? ⟨w.heap.size, 9, none⟩ = some (.int .i64 op.dir) ∧ w'.cell? ⟨w.heap.size, 10, none⟩ = some (.string op.nm) ∧ w'.cell? ⟨w.heap.size, 11, none⟩ = some (.int .i64 op.dst) ∧ w'.cell? ⟨w.heap.size, 12, none⟩ = some (.string op.new) ∧ w'.cell? ⟨w.heap.size, 13, none⟩ = some (.int .i64 op.mode) ∧ w'.cell? ⟨w.heap.size, 14, none⟩ = some (.string op.tg) ∧ w'.cell? ⟨w.heap.size, 15, none⟩ = some (.slice ae es.length ce) ∧ w'.cell? ⟨w.heap.size, 16, none⟩ = some (.slice ak ks.length ck) ∧ Below w.heap.size w w')
    (with_reducible first | exact kP | exact k3 | exact k2 | exact k0)
    (first
      | (go_at_call 31; refine (HMk.out _).mono ?_; rintro x w1 ⟨rfl, rfl⟩)
      | (go_at_call 32; refine (HCe.out _ hd).mono ?_; rintro x w2 ⟨a2, c2, rfl, hr2, hb2⟩; have k2 := HKp.out _ (chainB hd hb2))
      | (go_at_call 33; refine (HCk.out _ (chainB hd hb2)).mono ?_; rintro x w3 ⟨a3, c3, rfl, hr3, hb3⟩; have k3 := HKp.out _ (chainB (chainB hd hb2) hb3); have hz := hkeep HBx.out.2.1 (chainB (chainB hd hb2) hb3); have zf := free_of hz; have z0 := cell_of hz 0; have z1 := cell_of hz 1; have z2 := cell_of hz 2; have z3 := cell_of hz 3; have z4 := cell_of hz 4; have z5 := cell_of hz 5; have z6 := cell_of hz 6; have z7 := cell_of hz 7; have z8 := cell_of hz 8; have z9 := cell_of hz 9; have z10 := cell_of hz 10; have z11 := cell_of hz 11; have z12 := cell_of hz 12; have z13 := cell_of hz 13; have z14 := cell_of hz 14; have z15 := cell_of hz 15; simp at z0 z1 z2 z3 z4 z5 z6 z7 z8 z9 z10 z11 z12 z13 z14 z15; have HZ : Hid (w3.heap[W.heap.size]? = some (.cells #[.int .i64 0, .int .i64 0, .int .i64 0, .int .i64 0, .complex .f64 0 0, .int .i64 0, .int .i64 0, .int .i64 0, .int .i64 0, .string ⟨#[]⟩, .int .i64 0, .string ⟨#[]⟩, .int .i64 0, .string ⟨#[]⟩, .slice none 0 0, .slice none 0 0] 45 (0, 0)) ∧ Row7 w3 w.heap.size (.slice a2 es.length c2) es ∧ RowK w3 w.heap.size (.slice a3 ks.length c3) ks ∧ Below w.heap.size w w3) := ⟨hz, owns_le (hr2.below hb3) (Nat.le_trans HBx.out.2.2.1.size hd.size), owns_le hr3 (Nat.le_trans (Nat.le_trans HBx.out.2.2.1.size hd.size) hb2.size), chainB HBx.out.2.2.1 (chainB (chainB hd hb2) hb3)⟩; have kP := HPut.out _ (chainB (chainB hd hb2) hb3) [.int .i64 kind, .int .i64 client, .int .i64 life, .int .i64 seq, .complex .f64 (floatOfInt .f64 ep) (floatOfInt .f64 nb), .int .i64 vers, .int .i64 err, .int .i64 op.kind, .int .i64 op.dir, .string op.nm, .int .i64 op.dst, .string op.new, .int .i64 op.mode, .string op.tg, .slice a2 es.length c2, .slice a3 ks.length c3]; simp only [putC] at kP; clear hz))
  have hfin := putC_all (g := W.heap.size) (xs := [.int .i64 kind, .int .i64 client, .int .i64 life, .int .i64 seq, .complex .f64 (floatOfInt .f64 ep) (floatOfInt .f64 nb), .int .i64 vers, .int .i64 err, .int .i64 op.kind, .int .i64 op.dir, .string op.nm, .int .i64 op.dst, .string op.new, .int .i64 op.mode, .string op.tg, .slice a2 es.length c2, .slice a3 ks.length c3]) HZ.out.1 rfl
  have hon := putC_only W.heap.size [.int .i64 kind, .int .i64 client, .int .i64 life, .int .i64 seq, .complex .f64 (floatOfInt .f64 ep) (floatOfInt .f64 nb), .int .i64 vers, .int .i64 err, .int .i64 op.kind, .int .i64 op.dir, .string op.nm, .int .i64 op.dst, .string op.new, .int .i64 op.mode, .string op.tg, .slice a2 es.length c2, .slice a3 ks.length c3] 0 w3
  have htg : ∀ k, k = W.heap.size → Tag w3 k 45 := fun k e => by rw [e]; exact ⟨_, _, HZ.out.1⟩
  go_wp2
  refine bodyPost_ret (results_cell_row rfl _ _ W.heap.size _ _ _ _ rfl hfin Try.underlying45 rfl Try.sizeMg) rfl ?_
  exact ⟨.slice a2 es.length c2, .slice a3 ks.length c3, rfl, row7_tag HZ.out.2.1 hon htg, rowK_tag HZ.out.2.2.1 hon htg, hon.below HZ.out.2.2.2 HZ.out.2.2.2.size (fun k hk => by have := HBx.out.2.2.2; omega)⟩
/-- the message that the law makes of it -/
def MsgR (m : Mm) (w : World) (e : Ending) (w' : World) : Prop := ∃ z : Hm, e = .returned (.agg z.arr) ∧ z.m = m.pm ∧ Lists w' w.heap.size z ∧ Below w.heap.size w w'
theorem msg_p (m : Mm) (w : World) (h : ArgM w m) : Calls Try.prog 13 #[.agg m.arr] w fun e w' => MsgR m w e w' := by
  have l1 : m.es.length * 72 ≤ LB := by obtain ⟨_, _, _, hl, _⟩ := h.es; exact hl
  have l2 : m.ks.length * 24 ≤ LB := by obtain ⟨_, _, _, hl, _⟩ := h.ks; exact hl
  refine (msg_any m w h).mono ?_
  rintro e w' ⟨ve, vk, rfl, h1, h2, hb⟩
  obtain ⟨ae, ce, rfl⟩ := owns_len h1
  obtain ⟨ak, ck, rfl⟩ := owns_len h2
  exact ⟨⟨m.pm, ae, ce, ak, ck⟩, rfl, rfl, ⟨h1, h2, l1, l2⟩, hb⟩
end
end Go.Proofs.Ytpmcecenhgppbaa
