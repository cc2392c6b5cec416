/- The program's tree: put. -/
import Derived.Test.YtppbbddlbfgpfaaJWUps13
namespace Go.Proofs.Ytppbbddlbfgpfaa
section
open Go.RowKit
attribute [local go_sem high] eqK' neqK' eqE neqE eqN neqN guardK guardE guardN

/-- what a call on the program's tree leaves -/
structure PS (w w' : World) (t : Nat) (s s' : Tr) : Prop where
  is : IsP w' t s'
  only : Only (fun x => x = t ∨ s.v.ownBlock = some x) w w'
  v : s'.v.ownBlock = s.v.ownBlock ∨ ∀ q, s'.v.ownBlock = some q → w.heap.size ≤ q
theorem PS.stay {w w' : World} {t : Nat} {s : Tr} (h : IsP w t s) (hb : Below w.heap.size w w') : PS w w' t s s := ⟨h.below hb, Only.of hb, .inl rfl⟩
theorem PS.le {w0 w w' : World} {t : Nat} {s s' : Tr} (h : PS w w' t s s') (hb : Below w0.heap.size w0 w) : PS w0 w' t s s' := ⟨h.is, (Only.of hb).trans h.only, h.v.imp id fun k q hq => Nat.le_trans hb.size (k q hq)⟩
theorem PS.on {w w' w2 : World} {t : Nat} {s s' : Tr} (h : PS w w' t s s') (hb : Below w'.heap.size w' w2) : PS w w2 t s s' := ⟨h.is.below hb, h.only.trans (Only.of hb), h.v⟩
theorem PS.trans {w w1 w2 : World} {t : Nat} {s s1 s2 : Tr} (h : PS w w1 t s s1) (k : PS w1 w2 t s1 s2) : PS w w2 t s s2 := by
  refine ⟨k.is, ⟨k.only.os.trans h.only.os, k.only.tape.trans h.only.tape, k.only.output.trans h.only.output, Nat.le_trans h.only.size k.only.size, fun q hq hn => ?_⟩, ?_⟩
  · refine (k.only.block q (Nat.lt_of_lt_of_le hq h.only.size) ?_).trans (h.only.block q hq hn)
    rintro (e | e)
    · exact hn (.inl e)
    · rcases h.v with hv | hv
      · rw [hv] at e; exact hn (.inr e)
      · have := hv q e; omega
  · rcases k.v with kv | kv
    · rcases h.v with hv | hv
      · exact .inl (kv.trans hv)
      · exact .inr fun q hq => hv q (by rw [← kv]; exact hq)
    · exact .inr fun q hq => Nat.le_trans h.only.size (kv q hq)
theorem PS.bump {w w' : World} {t : Nat} {s s' : Tr} (h : PS w w' t s s') (x : Int) : PS w (w'.setCell ⟨t, 2, none⟩ (.int .i64 x)) t s { s' with next := x } := by
  refine ⟨⟨(heap_set h.is.head 2 _).trans rfl, owns_moved h.is.row fun k hk => heap_set_ne ((h.is.tv hk).ne h.is.tt (by decide)), h.is.lim⟩, h.only.trans ((only1 w' t 2 _).mono fun _ e => .inl e), h.v⟩
theorem PS.vers {w w' : World} {t : Nat} {s s' : Tr} (h : PS w w' t s s') (x : Int) : PS w (w'.setCell ⟨t, 1, none⟩ (.int .i64 x)) t s { s' with vers := x } := by
  refine ⟨⟨(heap_set h.is.head 1 _).trans rfl, owns_moved h.is.row fun k hk => heap_set_ne ((h.is.tv hk).ne h.is.tt (by decide)), h.is.lim⟩, h.only.trans ((only1 w' t 1 _).mono fun _ e => .inl e), h.v⟩
theorem PS.drew {w w' : World} {t : Nat} {s s' : Tr} (h : PS w.drew w' t s s') : PS w w' t s s' := ⟨h.is, ⟨h.only.os, h.only.tape, h.only.output, h.only.size, h.only.block⟩, h.v⟩
theorem PS.drawn {w w' : World} {t : Nat} {s s' : Tr} (h : PS w w' t s s') : PS w w'.drew t s s' := h.on (Below.refl _ _).drew
/-- a block of another's stays -/
theorem PS.keep {w w' : World} {t k : Nat} {s s' : Tr} (h : PS w w' t s s') (hk : k < w.heap.size) (h1 : k ≠ t) (h2 : s.v.ownBlock ≠ some k) : w'.heap[k]? = w.heap[k]? := h.only.block k hk (fun e => e.elim h1 h2)

theorem push_p {W w2 : World} {t : Nat} {s : Tr} {V v2 : Value} {e : En} {o : Obj} (h : IsP W t s) (hV : s.v = V) (hroom : s.es.length + 1 ≤ 100)
    (hown : w2.ownsRow 0 42 7 v2 (s.es.length + 1) (ec s.es ++ e.vals)) (hgrow : (W.alloc o).grownBy w2 V.ownBlock) (hat : v2.ownBlock = V.ownBlock ∨ v2.ownBlock = some (W.alloc o).heap.size) :
    w2.cell? ⟨t, 0, none⟩ = some V ∧ (∀ i, w2.frozen? ⟨t, i, none⟩ = false) ∧ Hid (PS W (w2.setCell ⟨t, 0, none⟩ v2) t s { s with v := v2, es := s.es ++ [e] }) := by
  subst hV
  have hO : Only (fun q => s.v.ownBlock = some q) W w2 :=
    ⟨hgrow.os, hgrow.tape, hgrow.output, Nat.le_trans (by simp) hgrow.size, fun k hk hn => (hgrow.block k (by simp; omega) (fun e => hn e.symm)).trans (Below.heap_alloc _ _ _ hk)⟩
  have hr : w2.heap[t]? = W.heap[t]? := hO.block t h.tt.lt (fun e => h.tt.ne (h.tv e) (by decide) rfl)
  have hh := hr.trans h.head
  have hrow : w2.ownsRow 0 42 7 v2 (s.es ++ [e]).length (ec (s.es ++ [e])) := by
    rw [List.length_append, ec_app]
    have : ec [e] = e.vals := by unfold ec; simp
    rw [this]; exact hown
  refine ⟨by rw [cell_of hh]; rfl, free_of hh, ⟨(heap_set hh 0 v2).trans rfl, owns_moved hrow fun k hk => heap_set_ne ((Tag.own hrow hk).ne (⟨_, _, hh⟩ : Tag w2 t 92) (by decide)), ?_⟩, ?_, ?_⟩
  · show (s.es ++ [e]).length ≤ 100
    rw [List.length_append]; exact hroom
  · exact (hO.mono fun _ e => .inr e).trans ((only1 w2 t 0 v2).mono fun _ e => .inl e)
  · rcases hat with e | e
    · exact .inl e
    · refine .inr fun q hq => ?_
      have hq' : v2.ownBlock = some q := hq
      rw [e] at hq'
      simp at hq'; omega
/-- a row of its own set into the tree -/
theorem row_end {w w1 : World} {t : Nat} {s : Tr} {v' : Value} {es' : List En} (h : IsP w t s) (hl : es'.length ≤ 100) (hown : w1.ownsRow 0 42 7 v' es'.length (ec es')) (hO : Only (fun q => s.v.ownBlock = some q) w w1) (hv : v'.ownBlock = s.v.ownBlock) :
    w1.cell? ⟨t, 0, none⟩ = some s.v ∧ (∀ i, w1.frozen? ⟨t, i, none⟩ = false) ∧ Hid (PS w (w1.setCell ⟨t, 0, none⟩ v') t s { s with v := v', es := es' }) := by
  have hr : w1.heap[t]? = w.heap[t]? := hO.block t h.tt.lt (fun e => h.tt.ne (h.tv e) (by decide) rfl)
  have hh := hr.trans h.head
  refine ⟨by rw [cell_of hh]; rfl, free_of hh, ⟨(heap_set hh 0 v').trans rfl, owns_moved hown fun k hk => heap_set_ne ((Tag.own hown hk).ne (⟨_, _, hh⟩ : Tag w1 t 92) (by decide)), hl⟩, ?_, .inl hv⟩
  exact (hO.mono fun _ e => .inr e).trans ((only1 w1 t 0 v').mono fun _ e => .inl e)
/-- its row sorted -/
theorem sorted_end {w w1 : World} {t g n cap : Nat} {s : Tr} {es' : List En} (h : IsP w t s) (hv : s.v = .slice (some ⟨g, 0, none⟩) n cap) (hp : es'.Perm s.es) (hn : s.es.length = n) (hown : w1.ownsRow 0 42 7 (.slice (some ⟨g, 0, none⟩) n cap) n (ec es')) (hO : Only (· = g) w w1) : PS w w1 t s { s with es := es' } := by
  have hg : s.v.ownBlock = some g := by rw [hv]; rfl
  have hr : w1.heap[t]? = w.heap[t]? := hO.block t h.tt.lt (fun e => h.tt.ne (h.tv (e ▸ hg)) (by decide) rfl)
  refine ⟨⟨hr.trans h.head, ?_, ?_⟩, hO.mono fun k e => .inr (by rw [e]; exact hg), .inl rfl⟩
  · show w1.ownsRow 0 _ 7 s.v es'.length (ec es')
    rw [hp.length_eq, hn, hv]; exact hown
  · show es'.length ≤ 100
    rw [hp.length_eq]; exact h.lim

def nextP (n : Int) (x : En) : Int := if x.neg then n else max n (x.id + 1)
set_option maxHeartbeats 8000000 in
theorem put_p (t : Nat) (s : Tr) (x : En) (w : World) (h : IsP w t s) (hr : Rises s.es) (hl : s.es.length ≤ 99) (hx : x.neg = false → -9223372036854775808 ≤ x.id ∧ x.id < 9223372036854775807) :
    Calls Try.prog 37 #[.pointer (some ⟨t, 0, none⟩), x.agg] w fun e w' => e = .returned (.tuple #[]) ∧ ∃ v', PS w w' t s { s with v := v', es := putL s.es x, next := nextP s.next x } := by
  obtain ⟨i1, hi1, hw0, hw1, hw2⟩ := info_parts Try.infoE
  have H : Hid (IsP w t s) := h
  have HR : Hid (Rises s.es) := hr
  have hlt := h.tt.lt
  obtain ⟨c0, _, _, cf⟩ := h.cells
  obtain ⟨V, hV⟩ : ∃ V, s.v = V := ⟨_, rfl⟩
  rw [hV] at c0
  have HV : Hid (s.v = V) := hV
  -- the list without the key
  obtain ⟨G, hG⟩ : ∃ G, goneL s.es x.d x.nm = G := ⟨_, rfl⟩
  have hGl : G.length ≤ s.es.length := by rw [← hG]; exact goneL_le _ _ _
  have HG : Hid (goneL s.es x.d x.nm = G) := hG
  -- the box
  obtain ⟨W, hW⟩ : ∃ W, w.alloc (.cells x.vals.toArray 42) = W := ⟨_, rfl⟩
  have hbW : Below w.heap.size w W := by rw [← hW]; exact below_alloc _ _
  have m0 : W.heap[w.heap.size]? = some (.cells x.vals.toArray 42 (0, 0)) := by rw [← hW]; exact heap_new _ _
  have hwW : w.heap.size < W.heap.size := (Array.getElem?_eq_some_iff.1 m0).1
  have hvW : ∀ q, V.ownBlock = some q → q ≠ w.heap.size := fun q hq e => by
    have := (h.tv (by rw [hV]; exact hq)).lt
    omega
  have hdel := delete_p V s.es 0 w.heap.size x.d x.nm W (by rw [← hV]; exact (h.below hbW).row) (by omega) hwW hvW (cells7_of m0).c0 (cells7_of m0).c1
  rw [hG] at hdel
  have HD : Hid (Calls Try.prog 64 #[V, .func (.func 65) #[] #[.pointer (some ⟨w.heap.size, 0, none⟩)]] W fun e w' => ∃ v', e = .returned v' ∧ w'.ownsRow 0 42 7 v' G.length (ec G) ∧ v'.ownBlock = V.ownBlock ∧ Only (fun q => V.ownBlock = some q) W w') := hdel
  have HB : Hid (W.heap[w.heap.size]? = some (.cells x.vals.toArray 42 (0, 0)) ∧ Below w.heap.size w W ∧ ∀ q, V.ownBlock = some q → q ≠ w.heap.size) := ⟨m0, hbW, hvW⟩
  have d0 := (hbW.cell (p := ⟨t, 0, none⟩) hlt).trans c0
  clear hdel m0 hvW hG hV h hr c0 cf
  unfold En.vals at hW
  unfold En.agg
  go_enter Try.func37, Try.ntmps37
  go_upto_region 1 with fail
  clear hW
  obtain ⟨av, an, ac, hVf⟩ : ∃ a n c, V = .slice a n c := by
    obtain ⟨a, c, e⟩ := owns_len H.out.row
    rw [HV.out] at e
    exact ⟨a, _, c, e⟩
  subst hVf
  go_upto_region 2 with (go_at_call 64; refine HD.out.mono ?_; rintro y w1 ⟨v1, rfl, hown1, hv1, hO1⟩; obtain ⟨f0, ff, HP1⟩ := row_end (H.out.below HB.out.2.1) (by omega) hown1 (hO1.mono fun q hq => by rw [HV.out]; exact hq) (by rw [HV.out]; exact hv1); obtain ⟨a1, c1, rfl⟩ := owns_len hown1; have hbx1 := (hO1.block w.heap.size hwW (fun e => HB.out.2.2 _ e rfl)).trans HB.out.1; rw [HV.out] at f0)
  obtain ⟨W2, hW2⟩ : ∃ W2, w1.setCell ⟨t, 0, none⟩ (.slice a1 G.length c1) = W2 := ⟨_, rfl⟩
  rw [hW2] at HP1 ⊢
  have hbx2 : W2.heap[w.heap.size]? = some (.cells x.vals.toArray 42 (0, 0)) := by rw [← hW2]; exact (heap_set_ne (by omega)).trans hbx1
  have hbc := cells7_of hbx2
  have b2 := hbc.c2
  simp only [Nat.zero_add] at b2
  have HX : Hid (W2.heap[w.heap.size]? = some (.cells x.vals.toArray 42 (0, 0))) := hbx2
  have hvv : (Value.slice av an ac).ownBlock = (Value.slice a1 G.length c1).ownBlock := hv1.symm
  clear hW2 hbx1 hbx2 hbc hown1 hv1 hO1 f0 ff d0 HD
  cases hn : x.neg with
  | true =>
    rw [hn] at b2
    have HF : Hid (putL s.es x = G ∧ nextP s.next x = s.next) := ⟨by unfold putL; rw [hn, HG.out]; rfl, by unfold nextP; rw [hn]; rfl⟩
    go_wp2
    refine bodyPost_ret (results_none rfl _ _ _) rfl ?_
    refine ⟨rfl, .slice a1 G.length c1, ?_⟩
    rw [HF.out.1, HF.out.2]
    exact HP1.out.le HB.out.2.1
  | false =>
    rw [hn] at b2
    obtain ⟨hx1, hx2⟩ := hx hn
    have hv : x.vals = [.int .i64 x.d, .string x.nm, .bool false, .int .i64 x.id, .int .i64 x.kind, .int .i64 x.mode, .string x.tg] := by unfold En.vals; rw [hn]
    have HVal : Hid (x.vals = [.int .i64 x.d, .string x.nm, .bool false, .int .i64 x.id, .int .i64 x.kind, .int .i64 x.mode, .string x.tg]) := hv
    have HN : Hid (x.neg = false) := hn
    clear hv hx
    go_upto_region 3 with fail
    have hc2 := HP1.out.is.cells
    obtain ⟨f0, -, -, ff⟩ := hc2
    have hbc := cells7_of HX.out
    have b0 := hbc.c0
    have b1 := hbc.c1
    have b3 := hbc.c3
    have b4 := hbc.c4
    have b5 := hbc.c5
    have b6 := hbc.c6
    simp only [Nat.zero_add] at b1 b3 b4 b5 b6
    have HO : Hid (W2.drew.ownsRow 0 42 7 (.slice a1 G.length c1) G.length (ec G)) := HP1.out.is.row
    have htl : t < W2.heap.size := HP1.out.is.tt.lt
    have hwl : w.heap.size < W2.heap.size := cellLt b0
    clear hbc
    go_region_law (refine step_append_own_at rfl (.tmp 19) (.tmp 21) 48 rfl 0 42 i1 _ 7 72 Try.underlying48 hi1 hw0 hw1 hw2 rfl (by decide) (.slice a1 G.length c1) G.length (ec G) (by simp [Act.eval]) (World.ownsRow.alloc (by exact HO.out) _) ⟨W2.heap.size, 0, none⟩ 1 1 [.int .i64 x.d, .string x.nm, .bool false, .int .i64 x.id, .int .i64 x.kind, .int .i64 x.mode, .string x.tg] (by simp [Act.eval]) rfl (by rw [← HVal.out]; exact vals_at _ x _) (by rw [← HVal.out]; exact vals_one _) (by unfold maxLen; omega) (by omega) (Nat.zero_le _) ?_; intro v3 w3 hown3 hgrow3 hat3; rw [← HVal.out] at hown3; obtain ⟨d1, d2, HE⟩ := push_p (W := W2.drew) (e := x) (HP1.out.is.below (Below.refl _ _).drew) rfl (by show G.length + 1 ≤ 100; omega) hown3 hgrow3 hat3; obtain ⟨av3, cv3, rfl⟩ := owns_len hown3; have hx3 := (hgrow3.block w.heap.size (by simp; omega) (fun e => HB.out.2.2 _ (hvv.trans e.symm) rfl)); clear hgrow3 hat3)
    all_goals
      obtain ⟨W3, hW3⟩ : ∃ W3, w3.setCell ⟨t, 0, none⟩ (.slice av3 (G.length + 1) cv3) = W3 := ⟨_, rfl⟩
      rw [hW3] at HE ⊢
      have hbx3 : W3.heap[w.heap.size]? = some (.cells x.vals.toArray 42 (0, 0)) := by
        rw [← hW3]
        exact (heap_set_ne (by omega)).trans (hx3.trans ((Below.heap_alloc _ _ _ hwl).trans HX.out))
      obtain ⟨g3, cap3, hg3⟩ := owns_form hown3
      cases hg3
      have HE3 : Hid (PS W2 W3 t ⟨.slice a1 G.length c1, G, s.vers, s.next⟩ ⟨.slice (some ⟨g3, 0, none⟩) (G.length + 1) cv3, G ++ [x], s.vers, s.next⟩) := HE.out.drew
      obtain ⟨e0, -, -, -⟩ := HE3.out.is.cells
      have hrow3 := HE3.out.is.row
      have hso := sort_p g3 (G.length + 1) cv3 0 (G ++ [x]) W3 (by simpa using hrow3) (by simp) (by omega)
      have HS : Hid (Calls Try.prog 32 #[.slice (some ⟨g3, 0, none⟩) (G.length + 1) cv3, .func (.func 66) #[] #[]] W3 fun e w' => e = .returned (.tuple #[]) ∧ ∃ es' : List En, es'.Perm (G ++ [x]) ∧ (Apart (G ++ [x]) → Rises es') ∧ w'.ownsRow 0 42 7 (.slice (some ⟨g3, 0, none⟩) (G.length + 1) cv3) (G.length + 1) (ec es') ∧ Only (· = g3) W3 w') := hso
      have HX3 : Hid (W3.heap[w.heap.size]? = some (.cells x.vals.toArray 42 (0, 0)) ∧ g3 ≠ w.heap.size) := ⟨hbx3, by
        rintro rfl
        rcases HE3.out.v with e | e
        · exact HB.out.2.2 _ (hvv.trans e.symm) rfl
        · have := e w.heap.size rfl; omega⟩
      clear hW3 hx3 hbx3 hown3 hrow3 hso HE d1 d2 f0 ff b0 b1 b2 b3 b4 b5 b6
      go_upto_region 5 with (go_at_call 32; refine HS.out.mono ?_; rintro y w4 ⟨rfl, es4, hp4, hr4, hown4, hO4⟩; have HP4 : Hid (PS W3 w4 t ⟨.slice (some ⟨g3, 0, none⟩) (G.length + 1) cv3, G ++ [x], s.vers, s.next⟩ ⟨.slice (some ⟨g3, 0, none⟩) (G.length + 1) cv3, es4, s.vers, s.next⟩) := sorted_end HE3.out.is rfl hp4 (by simp) hown4 hO4; have hbx4 := (hO4.block w.heap.size (Nat.lt_of_lt_of_le hwl HE3.out.only.size) (fun e => HX3.out.2 e.symm)).trans HX3.out.1; clear hown4 hO4)
      have HX4 : Hid (W3.heap[w.heap.size]? = some (.cells x.vals.toArray 42 (0, 0))) := HX3.out.1
      obtain ⟨-, -, n2, nf⟩ := HP4.out.is.cells
      have b3 := (cells7_of hbx4).c3
      simp only [Nat.zero_add] at b3
      have HEs : Hid (es4 = putL s.es x ∧ nextP s.next x = max s.next (x.id + 1)) := by
        refine ⟨?_, by unfold nextP; rw [HN.out]; rfl⟩
        unfold putL
        rw [HN.out, HG.out]
        have hap : Apart (G ++ [x]) := by rw [← HG.out]; exact apart_gone_snoc x HR.out.apart
        exact ((hr4 hap).srt hp4).symm
      have HF : Hid (PS w w4 t s ⟨.slice (some ⟨g3, 0, none⟩) (G.length + 1) cv3, es4, s.vers, s.next⟩) := ((HP1.out.trans HE3.out).trans HP4.out).le HB.out.2.1
      obtain ⟨NX, hNX⟩ : ∃ x, s.next = x := ⟨_, rfl⟩
      clear hr4 hp4 hbx4 HP4 HS e0
      rw [hNX] at n2
      have hwt : w.heap.size < w4.heap.size := cellLt b3
      have HWr : Hid (IntKind.i64.wrap (x.id + 1) = x.id + 1) := IntWalk.i64_in _ (by omega)
      have HNX : Hid (s.next = NX) := hNX
      clear hNX
      go_region_law (fail)
      all_goals
        go_end0
        refine ⟨rfl, .slice (some ⟨g3, 0, none⟩) (G.length + 1) cv3, ?_⟩
        rw [HWr.out, ← HNX.out, ← HEs.out.2, ← HEs.out.1]
        exact (HF.out.bump _).drawn
end
section
open Go.RowKit
attribute [local go_sem high] eqK' neqK' eqE neqE eqN neqN guardK guardE guardN

/-- slices.Clone of a list of entries -/
theorem clone_p (v : Value) (es : List En) (base : Nat) (w : World) (h : Row7 w base v es) (hl : es.length ≤ 1000000) :
    Calls Try.prog 38 #[v] w fun e w' => ∃ v', e = .returned v' ∧ Row7 w' w.heap.size v' es ∧ Below w.heap.size w w' := by
  obtain ⟨i1, hi1, hw0, hw1, hw2⟩ := info_parts Try.infoE
  rcases h.2 with ⟨rfl, hn⟩ | ⟨g, cap, cur, rfl, hg, hh, r⟩
  · have hcon := AnyE.slices_Clone_nil Try.cloneE 0 0 w
    change Calls Try.prog 38 _ _ _ at hcon
    refine hcon.mono ?_
    rintro e w' ⟨rfl, rfl⟩
    obtain rfl : es = [] := List.length_eq_zero_iff.1 hn
    exact ⟨_, rfl, World.ownsRow_nil _ _ _ _, Below.refl _ _⟩
  · have hc := (owns_cells h).1
    have hcon := AnyE.slices_Clone Try.cloneE i1 _ 7 72 hi1 hw0 hw1 hw2 rfl (by decide) Try.sizeOf42 g 0 es.length cap (ec es) w (ec_len es) (by unfold maxLen; omega) (by omega) (fun j u hu => by rw [Nat.zero_add]; exact hc j u hu) (ec_one es)
    change Calls Try.prog 38 _ _ _ at hcon
    refine hcon.mono ?_
    rintro e w' ⟨v', rfl, hown, _, hb⟩
    exact ⟨v', rfl, hown, hb⟩
theorem dump_p (t : Nat) (s : Tr) (w : World) (h : IsP w t s) :
    Calls Try.prog 24 #[.pointer (some ⟨t, 0, none⟩)] w fun e w' => ∃ v', e = .returned v' ∧ Row7 w' w.heap.size v' s.es ∧ Below w.heap.size w w' := by
  obtain ⟨c0, _⟩ := h.cells
  have HC : Hid (Calls Try.prog 38 #[s.v] w fun e w' => ∃ v', e = .returned v' ∧ Row7 w' w.heap.size v' s.es ∧ Below w.heap.size w w') := clone_p s.v s.es 0 w h.row (by have := h.lim; omega)
  obtain ⟨a, cap, e⟩ := owns_len h.row
  rw [e] at c0 HC
  clear h e
  go_enter Try.func24, Try.ntmps24
  go_wp2_with (go_at_call 38; refine HC.out.mono ?_; rintro y w1 ⟨v1, rfl, hr1, hb1⟩)
  go_ret
  exact ⟨v1, rfl, hr1, hb1⟩

/-- a directory's entries -/
def listL (es : List En) (d : Int) : List En := es.filter fun e => decide (e.d = d)
theorem listL_take (es : List En) (d : Int) (k : Nat) (e : En) (h : es[k]? = some e) : listL (es.take (k + 1)) d = listL (es.take k) d ++ if e.d = d then [e] else [] := by
  unfold listL
  rw [List.take_add_one, h, List.filter_append]
  congr 1
  by_cases hq : e.d = d <;> simp [hq]
theorem listL_le (es : List En) (d : Int) : (listL es d).length ≤ es.length := List.length_filter_le _ _
theorem listL_names (es : List En) (d : Int) : (listL es d).length = namesN es d := rfl
theorem listL_mem {es : List En} {d : Int} {x : En} : x ∈ listL es d ↔ x ∈ es ∧ x.d = d := by
  unfold listL
  rw [List.mem_filter, decide_eq_true_iff]
def listR (es : List En) (d : Int) : List En := if dirE es d = 0 then listL es d else []

set_option maxRecDepth 20000 in
set_option maxHeartbeats 4000000 in
theorem list_p (t : Nat) (s : Tr) (d : Int) (w : World) (h : IsP w t s) :
    Calls Try.prog 18 #[.pointer (some ⟨t, 0, none⟩), .int .i64 d] w fun e w' => ∃ v', e = .returned (.tuple #[v', .int .i64 (dirE s.es d)]) ∧ Row7 w' w.heap.size v' (listR s.es d) ∧ Below w.heap.size w w' := by
  obtain ⟨i1, hi1, hw0, hw1, hw2⟩ := info_parts Try.infoE
  obtain ⟨D, hD⟩ : ∃ x, dirE s.es d = x := ⟨_, rfl⟩
  have HD : Hid (∀ w, IsP w t s → Calls Try.prog 35 #[.pointer (some ⟨t, 0, none⟩), .int .i64 d] w fun e w' => e = .returned (.int .i64 D) ∧ Below w.heap.size w w') := by
    intro w hw; rw [← hD]; exact directory_p t s d w hw
  have H : Hid (IsP w t s) := h
  have HL : Hid (listR s.es d = if D = 0 then listL s.es d else []) := by show _ = _; unfold listR; rw [hD]
  rw [hD]
  obtain ⟨c0, _, _, _⟩ := h.cells
  obtain ⟨a, cap, e⟩ := owns_len h.row
  rw [e] at c0
  obtain ⟨n, hn⟩ : ∃ n, s.es.length = n := ⟨_, rfl⟩
  rw [hn] at c0 e
  have hlim := h.lim
  rw [hn] at hlim
  have hlt := h.tt.lt
  have HV : Hid (s.v = .slice a n cap ∧ s.es.length = n) := ⟨e, hn⟩
  clear hD h e hn
  by_cases hD0 : D = 0
  · subst hD0
    have HL2 : Hid (listR s.es d = listL s.es d) := by show _ = _; rw [HL.out]; simp
    go_enter Try.func18, Try.ntmps18
    go_wp2_with (go_at_call 35; refine (HD.out _ H.out).mono ?_; rintro x w1 ⟨rfl, hb1⟩; have d0 := (hb1.cell (p := ⟨t, 0, none⟩) hlt).trans c0)
    have HB1 : Hid (Below w.heap.size w w1) := hb1
    go_loopw [7, 21] (fun u i wr => ∃ k : Nat, k ≤ n ∧ i = .int .i64 k ∧ wr.ownsRow w.heap.size 42 7 u (listL (s.es.take k) d).length (ec (listL (s.es.take k) d)) ∧ Below w.heap.size w wr) (fun _ i _ => n - (intOf i).toNat)
    case atStart => exact ⟨0, Nat.zero_le _, rfl, World.ownsRow_nil _ _ _ _, HB1.out⟩
    case round =>
      obtain ⟨k, hk, rfl, hown, hb⟩ := hrel
      by_cases hkn : k < n
      · obtain ⟨e, he⟩ : ∃ e, s.es[k]? = some e := ⟨_, List.getElem?_eq_getElem (by rw [HV.out.2]; exact hkn)⟩
        have hrow := (H.out.below hb).row
        rw [HV.out.1] at hrow
        obtain ⟨g, rfl, -, -, hg, hc, -⟩ := owns_entry hrow he
        have x0 := hc.c0
        have x1 := hc.c1
        have x2 := hc.c2
        have x3 := hc.c3
        have x4 := hc.c4
        have x5 := hc.c5
        have x6 := hc.c6
        have hki : (k : Int) < (n : Int) := by omega
        have HT := listL_take s.es d k e he
        have hgl := listL_le (s.es.take k) d
        rw [List.length_take] at hgl
        obtain ⟨G, hG⟩ : ∃ G, listL (s.es.take k) d = G := ⟨_, rfl⟩
        rw [hG] at hown HT hgl
        have hGl : G.length ≤ 100 := by omega
        by_cases hq : e.d = d
        · rw [if_pos hq] at HT
          have HE : Hid (listL (s.es.take (k + 1)) d = G ++ [e]) := HT
          have hqb : (e.d == d) = true := by simpa using hq
          obtain ⟨W5, hW5⟩ : ∃ W5, wr.alloc (.cells e.vals.toArray 42) = W5 := ⟨_, rfl⟩
          have hb5 : Below w.heap.size w W5 := by rw [← hW5]; exact chainB hb (below_alloc _ _)
          have ho5 : W5.ownsRow w.heap.size 42 7 u7 G.length (ec G) := by rw [← hW5]; exact owns_below hown (below_alloc _ _)
          have hc5 := cells7_of (show W5.heap[wr.heap.size]? = some (.cells e.vals.toArray 42 (0, 0)) from by rw [← hW5]; exact heap_new _ _)
          unfold En.vals at hW5
          have y0 := hc5.c0
          have y1 := hc5.c1
          have y2 := hc5.c2
          have y3 := hc5.c3
          have y4 := hc5.c4
          have y5 := hc5.c5
          have y6 := hc5.c6
          simp only [Nat.zero_add] at y1 y2 y3 y4 y5 y6
          clear hrow hc he HT hG hq hgl hown hc5
          go_upto_region 9 with fail
          clear hW5 x0 x1 x2 x3 x4 x5 x6 hqb
          go_wp2_with (at_builtin; refine wpList_append_own_at _ rfl (.tmp 30) (.tmp 32) 48 rfl w.heap.size 42 i1 _ 7 72 Try.underlying48 hi1 hw0 hw1 hw2 rfl (by decide) _ G.length (ec G) rfl (World.ownsRow.alloc ho5 _) ⟨W5.heap.size, 0, none⟩ 1 1 e.vals rfl rfl (vals_at _ e _) (vals_one e) (by unfold maxLen; omega) (by omega) (by have := hb5.size; simp; omega) ?_; intro v5 w5 hown5 hgrow5 _ _; have H5 : Hid (w5.ownsRow w.heap.size 42 7 v5 (G.length + 1) (ec G ++ e.vals) ∧ Below w.heap.size w w5) := ⟨hown5, Below.grown (hb5.alloc hb5.size _) hgrow5 (by have := hb5.size; simp; omega) (fun q hq => (World.ownsRow.lt ho5 q hq).1)⟩; clear hown5 hgrow5)
          refine ⟨⟨k + 1, by omega, by simp, ?_, H5.out.2⟩, by simp [intOf]; omega⟩
          rw [HE.out, List.length_append, ec_app]
          have : ec [e] = e.vals := by unfold ec; simp
          rw [this]; exact H5.out.1
        · rw [if_neg hq, List.append_nil] at HT
          have HE : Hid (listL (s.es.take (k + 1)) d = G) := HT
          have HO : Hid (wr.ownsRow w.heap.size 42 7 u7 G.length (ec G)) := hown
          have hqb : (e.d == d) = false := by simpa using hq
          clear hrow hc he HT hG hown hq
          go_wp2
          exact ⟨⟨k + 1, by omega, by simp, by rw [HE.out]; exact owns_below HO.out (below_alloc _ _), chainB hb (below_alloc _ _)⟩, by simp [intOf]; omega⟩
      · have hkn' : ¬ (k : Int) < (n : Int) := by omega
        have hke : s.es.take k = s.es := List.take_of_length_le (by rw [HV.out.2]; omega)
        rw [hke] at hown
        have HO : Hid (wr.ownsRow w.heap.size 42 7 u7 (listL s.es d).length (ec (listL s.es d))) := hown
        clear hown hke
        go_wp2
        go_ret2
        exact ⟨u7, rfl, by rw [HL2.out]; exact HO.out, hb⟩
  · have hDb : (D != 0) = true := by simpa using hD0
    have HL2 : Hid (listR s.es d = []) := by show _ = _; rw [HL.out]; simp [hD0]
    clear hD0
    go_enter Try.func18, Try.ntmps18
    go_wp2_with (go_at_call 35; refine (HD.out _ H.out).mono ?_; rintro x w1 ⟨rfl, hb1⟩)
    go_ret2
    exact ⟨.slice none 0 0, rfl, by rw [HL2.out]; exact World.ownsRow_nil _ _ _ _, hb1⟩
end
end Go.Proofs.Ytppbbddlbfgpfaa
