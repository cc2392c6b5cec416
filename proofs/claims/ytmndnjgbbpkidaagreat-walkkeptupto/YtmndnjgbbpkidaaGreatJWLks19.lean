/- Of: a script played on both caches. -/
import Derived.Test.YtmndnjgbbpkidaaGreatJWLks18
namespace Go.Proofs.YtmndnjgbbpkidaaGreat
section
open Go.RowKit
attribute [local go_sem ↓ high] loadEn storeEn loadDo storeDo

section
variable {w0 wr : World} {p q : Nat} {s : Cs} {n : Nat} {F : Nat → Prop}
theorem tw_put (h : Tw w0 wr p q s s n F) (e : En) (hn : n < 1300000000000) : Calls Tryz.prog 20 #[.pointer (some ⟨p, 0, none⟩), e.agg] wr fun x w' => x = .returned (.int .i64 (if e.nm = nob then 1 else 0)) ∧ Twc w0 wr w' p q (putS s e) s (n + 1) F :=
  tw_prog h (Nat.le_succ n) fun _ hl => ld_put hl e (by omega)
theorem tw_rput {s' : Cs} (h : Tw w0 wr p q s' s n F) (hk : KeysOk s.L) (e : En) (hn : n < 1300000000000) (hl : s.L.length + 1 ≤ n) : Calls Tryz.prog 21 #[.pointer (some ⟨q, 0, none⟩), e.agg] wr fun x w' => x = .returned (.int .i64 (if e.nm = nob then 1 else 0)) ∧ Twc w0 wr w' p q s' (putS s e) n F :=
  tw_doc h (by have := put_len s e; unfold putS; split <;> omega) (by rw [putS_W]; exact h.lw) fun k hk' _ => rput_d w0.heap.size q k s e wr hk' h.below.size hk (by omega)
theorem tw_use (h : Tw w0 wr p q s s n F) (k : Ky) (hn : n < 1300000000000) : Calls Tryz.prog 22 #[.pointer (some ⟨p, 0, none⟩), .agg #[.int .i64 k.d, .string k.nm]] wr fun x w' => x = .returned (.bool (getL s.L k).isSome) ∧ Twc w0 wr w' p q (s.use k) s (n + 1) F :=
  tw_prog h (Nat.le_succ n) fun _ hl => ld_use hl k (by omega)
theorem tw_ruse {s' : Cs} (h : Tw w0 wr p q s' s n F) (hk : KeysOk s.L) (k : Ky) (hn : n < 1300000000000) (hl : s.L.length + 1 ≤ n) : Calls Tryz.prog 23 #[.pointer (some ⟨q, 0, none⟩), .agg #[.int .i64 k.d, .string k.nm]] wr fun x w' => x = .returned (.bool (getL s.L k).isSome) ∧ Twc w0 wr w' p q s' (s.use k) n F :=
  tw_doc h (by have := use_len s k; omega) (by rw [use_W]; exact h.lw) fun kc hk' _ => ruse_d w0.heap.size q kc s k wr hk' h.below.size hk (by omega)
theorem tw_evict (h : Tw w0 wr p q s s n F) (k : Ky) : Calls Tryz.prog 29 #[.pointer (some ⟨p, 0, none⟩), .agg #[.int .i64 k.d, .string k.nm]] wr fun x w' => x = .returned (.bool (getL s.L k).isSome) ∧ Twc w0 wr w' p q (s.evict k) s n F :=
  tw_prog h (Nat.le_refl n) fun _ hl => ld_evict hl k
theorem tw_revict {s' : Cs} (h : Tw w0 wr p q s' s n F) (hk : KeysOk s.L) (k : Ky) (hn : n < 1300000000000) : Calls Tryz.prog 30 #[.pointer (some ⟨q, 0, none⟩), .agg #[.int .i64 k.d, .string k.nm]] wr fun x w' => x = .returned (.bool (getL s.L k).isSome) ∧ Twc w0 wr w' p q s' (s.evict k) n F :=
  tw_doc h (Nat.le_trans (evict_len s k) h.lt) (Nat.le_trans (evict_Wlen s k) h.lw) fun kc hk' _ => revict_d w0.heap.size q kc s k wr hk' h.below.size hk (by have := h.lt; omega) (by have := h.lw; omega)
theorem tw_clear (h : Tw w0 wr p q s s n F) : Calls Tryz.prog 27 #[.pointer (some ⟨p, 0, none⟩)] wr fun x w' => x = .returned (.tuple #[]) ∧ Twc w0 wr w' p q Cs.clear s n F :=
  tw_prog h (Nat.le_refl n) fun _ hl => ld_clear hl
theorem tw_rclear {s' : Cs} (h : Tw w0 wr p q s' s n F) : Calls Tryz.prog 28 #[.pointer (some ⟨q, 0, none⟩)] wr fun x w' => x = .returned (.tuple #[]) ∧ Twc w0 wr w' p q s' Cs.clear n F :=
  tw_doc h (Nat.zero_le _) (Nat.zero_le _) fun kc hk' _ => rclear_d w0.heap.size q kc s wr hk'
theorem tw_setW (h : Tw w0 wr p q s s n F) (d : Int) : Calls Tryz.prog 31 #[.pointer (some ⟨p, 0, none⟩), .int .i64 d] wr fun x w' => x = .returned (.tuple #[]) ∧ Twc w0 wr w' p q (s.setW d) s n F :=
  tw_prog h (Nat.le_refl n) fun _ hl => ld_setW hl d
theorem tw_rsetW {s' : Cs} (h : Tw w0 wr p q s' s n F) (d : Int) (hn : n < 1300000000000) (hl : s.W.length + 1 ≤ n) : Calls Tryz.prog 32 #[.pointer (some ⟨q, 0, none⟩), .int .i64 d] wr fun x w' => x = .returned (.tuple #[]) ∧ Twc w0 wr w' p q s' (s.setW d) n F :=
  tw_doc h h.lt (by have := setW_len s d; omega) fun kc hk' _ => rset_d w0.heap.size q kc s d wr hk' h.below.size (by omega)
theorem tw_cut (h : Tw w0 wr p q s s n F) (v : Value) (ks : List Ky) (hk : RdK wr v ks (fun b => w0.heap.size ≤ b ∧ ¬ F b)) (hl : ks.length ≤ 100000000000000) : Calls Tryz.prog 24 #[.pointer (some ⟨p, 0, none⟩), v] wr fun x w' => x = .returned (.tuple #[]) ∧ Twc w0 wr w' p q (s.cut ks) s n F := by
  obtain ⟨k, h1, h2, h3⟩ := h.ex
  have hk' : RdK wr v ks (fun b => w0.heap.size ≤ b ∧ ¬ (F b ∨ k.blk q b)) := by
    obtain ⟨a, cap, rfl, hk⟩ := hk
    refine ⟨a, cap, rfl, fun j x hx => ?_⟩
    obtain ⟨g, o, e1, e2, e3, e4⟩ := hk j x hx
    exact ⟨g, o, e1, e2, e3, fun hc => e4 ⟨hc.1, fun hf => hc.2 (.inl hf)⟩⟩
  refine (ld_cut h2 v ks hk' (by omega)).mono ?_
  rintro x w' ⟨rfl, hd⟩
  exact ⟨rfl, ⟨⟨k, h1.moved fun b hb => hd.kept b (.inr hb), hd.ld, h3⟩, h.lw, h.lt⟩, fun b hb => hd.kept b (.inl hb), hd.size⟩
theorem tw_rcut {s' : Cs} (h : Tw w0 wr p q s' s n F) (v : Value) (ks : List Ky) (hk : RdK wr v ks (fun b => w0.heap.size ≤ b ∧ ¬ F b)) (hn : n < 1300000000000) (hl : ks.length ≤ 100000000000000) : Calls Tryz.prog 26 #[.pointer (some ⟨q, 0, none⟩), v] wr fun x w' => x = .returned (.tuple #[]) ∧ Twc w0 wr w' p q s' (s.cut ks) n F :=
  tw_doc h (Nat.le_trans (cut_sub ks s).length_le h.lt) (Nat.le_trans (cut_Wlen ks s) h.lw) fun kc hk' hd => rcut_d w0.heap.size q kc s v ks wr hk' h.below.size (by
    obtain ⟨a, cap, rfl, hk⟩ := hk
    refine ⟨a, cap, rfl, fun j x hx => ?_⟩
    obtain ⟨g, o, e1, e2, e3, e4⟩ := hk j x hx
    exact ⟨g, o, e1, e2, e3, fun hc => e4 ⟨(hk'.at hc).1, hd g hc⟩⟩) (by have := h.lt; omega) (by have := h.lw; omega) hl
theorem Tw.keys {t : Cs} (h : Tw w0 wr p q s t n F) : KeysOk s.L := h.ld.keys
end
theorem ArgK.rd {w0 wr : World} {v : Value} {ks : List Ky} {F : Nat → Prop} (h : ArgK w0 v ks) (hb : Below w0.heap.size w0 wr) : RdK wr v ks (fun b => w0.heap.size ≤ b ∧ ¬ F b) := by
  obtain ⟨a, cap, rfl, _, hc⟩ := h
  refine ⟨a, cap, rfl, fun j k hk => ?_⟩
  rcases hc with hc | ⟨b, off, rfl, hg, hc⟩
  · rw [hc] at hk; simp at hk
  · refine ⟨b, off, rfl, (hb.cell (p := ⟨b, off + j * 2, none⟩) hg).trans (hc _ _ (kc_get ks j k hk).1), ?_, fun e => by omega⟩
    have := (hb.cell (p := ⟨b, off + j * 2 + 1, none⟩) hg).trans (hc (j * 2 + 1) _ (kc_get ks j k hk).2)
    exact this
theorem runS_len (ops : List DOp) : (runS ops).L.length ≤ ops.length ∧ (runS ops).W.length ≤ ops.length := by
  unfold runS
  have : ∀ (l : List DOp) (s : Cs) (n : Nat), s.L.length ≤ n → s.W.length ≤ n → (l.foldl opS s).L.length ≤ n + l.length ∧ (l.foldl opS s).W.length ≤ n + l.length := fun l => by
    induction l with
    | nil => exact fun s n h1 h2 => ⟨h1, h2⟩
    | cons x l ih =>
      intro s n h1 h2
      rw [List.foldl_cons, List.length_cons]
      have hx : (opS s x).L.length ≤ n + 1 ∧ (opS s x).W.length ≤ n + 1 := by
        unfold opS
        split
        · unfold putS
          split
          · omega
          · have := put_len s x.e
            exact ⟨by omega, by show s.W.length ≤ n + 1; omega⟩
        split
        · have := use_len s x.e.key
          rw [use_W]; omega
        split
        · have h3 := (cut_sub x.ks s).length_le
          have h4 := cut_Wlen x.ks s
          omega
        split
        · exact ⟨Nat.zero_le _, Nat.zero_le _⟩
        split
        · have h3 := evict_len s x.e.key
          have h4 := evict_Wlen s x.e.key
          omega
        · have h3 := setW_len s x.dir
          exact ⟨by show s.L.length ≤ n + 1; omega, by omega⟩
      have := ih (opS s x) (n + 1) hx.1 hx.2
      omega
  have h := this ops Cs.clear 0 (Nat.le_refl _) (Nat.le_refl _)
  rw [Nat.zero_add] at h
  exact h
theorem undrew {w w' : World} (h : Below w.drew.heap.size w.drew w') : Below w.heap.size w w' := ⟨h.os, h.tape, h.output, h.size, h.block⟩
theorem Twc.undrew {w0 wr w' : World} {p q : Nat} {s t : Cs} {n : Nat} {F : Nat → Prop} (h : Twc w0 wr.drew w' p q s t n F) : Twc w0 wr w' p q s t n F := ⟨h.tw, h.kept, h.size⟩
end
end Go.Proofs.YtmndnjgbbpkidaaGreat
