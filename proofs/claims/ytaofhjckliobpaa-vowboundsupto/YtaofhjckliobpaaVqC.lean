/- VowBounds. -/
import Derived.Test.YtaofhjckliobpaaVpJ
import Derived.Test.YtaofhjckliobpaaTkA
namespace Go.Proofs.Ytaofhjckliobpaa
open Go.RowKit Go.Shelf Go.Sort
theorem fldK0 (w : World) (a : Int) (b : ByteArray) : (Instr.field 36 (.agg #[.int .i64 a, .string b]) 0).run Try.prog w = .ok (.int .i64 a) w := by
  unfold Instr.field
  simp [go_sem]
  rfl
theorem fldK1 (w : World) (a : Int) (b : ByteArray) : (Instr.field 36 (.agg #[.int .i64 a, .string b]) 1).run Try.prog w = .ok (.string b) w := by
  unfold Instr.field
  simp [go_sem]
  rfl
attribute [local go_sem high] eqK neqK guardK fldK0 fldK1

/-- behind a call of the script -/
structure TB (w w3 : World) (t bx : Nat) (v11 v13 : Value) (S S' : Vs) (L : List Bs) (o : Ov) (i : Nat) : Prop where
  lv : Lv w w3 t S' (fun _ => False)
  row : RowK w3 w.heap.size v11 S.ks
  rt : Rd w3 v13 L S.e
  box : w3.heap[bx]? = some (.cells #[.int .i64 o.kind, .int .i64 o.ver, .int .i64 o.ep, .int .i64 o.num, .slice o.va o.vn o.vc] 33 (0, 0))
  bnd : Bnd S S' L o.ver
  same : S'.e = S.e ∧ S'.mp = S.mp ∧ S'.mq = S.mq
  n : S'.n ≤ (i + 1 : Nat)
theorem tb_of {w W0 w2 w3 : World} {t bx Bq i : Nat} {v11 v13 : Value} {S : Vs} {r : Vs × List Bs} {o : Ov} (hr : RowK W0 w.heap.size v11 S.ks) (hb : Below W0.heap.size W0 w2) (hx : w2.heap[bx]? = some (.cells #[.int .i64 o.kind, .int .i64 o.ver, .int .i64 o.ep, .int .i64 o.num, .slice o.va o.vn o.vc] 33 (0, 0))) (hc : Lc w w2 w3 t (fun k => v11.ownBlock = some k ∨ k = bx) v13 r S.e Bq) (hv : Bnd S r.1 r.2 o.ver) (hs : r.1.e = S.e ∧ r.1.mp = S.mp ∧ r.1.mq = S.mq) (hn : r.1.n ≤ (i + 1 : Nat)) : TB w w3 t bx v11 v13 S r.1 r.2 o i :=
  ⟨hc.lv.mono fun _ h => h.elim, (hr.below hb).moved fun k hk => hc.kept k (.inl hk), hc.rt.rd, (hc.kept bx (.inr rfl)).trans hx, hv, hs, hn⟩
theorem Lv.lq {w0 wr : World} {t : Nat} {S : Vs} {F : Nat → Prop} (h : Lv w0 wr t S F) : S.q.length ≤ S.mq := by
  obtain ⟨s, h1, rfl, -⟩ := h.ex
  show (s.bs.map Br.say).length ≤ s.mq
  rw [List.length_map]; exact h1.lb
theorem keep2 {W W' : World} {x y : Addr} {u1 u2 : Value} (h : W.cell? x = some u1 ∧ W.cell? y = some u2) (hb : Below W.heap.size W W') : W'.cell? x = some u1 ∧ W'.cell? y = some u2 := ⟨(hb.cell (cellLt h.1)).trans h.1, (hb.cell (cellLt h.2)).trans h.2⟩
theorem keep4 {W W' : World} {x y z s : Addr} {u1 u2 u3 u4 : Value} (h : W.cell? x = some u1 ∧ W.cell? y = some u2 ∧ W.cell? z = some u3 ∧ W.cell? s = some u4) (hb : Below W.heap.size W W') : W'.cell? x = some u1 ∧ W'.cell? y = some u2 ∧ W'.cell? z = some u3 ∧ W'.cell? s = some u4 :=
  ⟨(hb.cell (cellLt h.1)).trans h.1, (hb.cell (cellLt h.2.1)).trans h.2.1, (hb.cell (cellLt h.2.2.1)).trans h.2.2.1, (hb.cell (cellLt h.2.2.2)).trans h.2.2.2⟩
theorem Rd.at {w : World} {n cap j : Nat} {a : Option Addr} {L : List Bs} {e : Int} {b : Bs} (h : Rd w (.slice a n cap) L e) (hj : L[j]? = some b) : ∃ (g off : Nat) (va : Option Addr) (vn vc : Nat), a = some ⟨g, off, none⟩ ∧ w.cell? ⟨g, off + j * 4 + 2, none⟩ = some (.bool b.all) ∧ w.cell? ⟨g, off + j * 4 + 3, none⟩ = some (.slice va vn vc) ∧ ArgK w (.slice va vn vc) b.ks := by
  obtain ⟨bs, h1, rfl, -⟩ := h
  rw [List.getElem?_map] at hj
  cases hx : bs[j]? with
  | none => rw [hx] at hj; cases hj
  | some x =>
    rw [hx] at hj
    cases hj
    obtain ⟨g, off, rfl, -, -, -, l2, l3⟩ := h1.brk hx
    have hk := h1.2 x (List.mem_of_getElem? hx)
    exact ⟨g, off, x.va, x.vn, x.vc, rfl, l2, l3, hk.1.arg hk.2⟩
theorem Rd.one {w : World} {cap : Nat} {a : Option Addr} {e : Int} {b : Bs} (h : Rd w (.slice a 1 cap) [b] e) : ∃ (g off xa xb : Nat) (va : Option Addr) (vc : Nat), a = some ⟨g, off, none⟩ ∧ Mk xa xb e b.n ∧ w.cell? ⟨g, off, none⟩ = some (.complex .f64 xa xb) ∧ w.cell? ⟨g, off + 1, none⟩ = some (.int .i64 b.ver) ∧ w.cell? ⟨g, off + 2, none⟩ = some (.bool b.all) ∧ w.cell? ⟨g, off + 3, none⟩ = some (.slice va b.ks.length vc) := by
  obtain ⟨bs, h1, h2, h3⟩ := h
  obtain ⟨x, rfl⟩ : ∃ x, bs = [x] := by
    cases bs with
    | nil => cases h2
    | cons x l =>
      cases l with
      | nil => exact ⟨x, rfl⟩
      | cons y l => cases h2
  have e1 : x.say = b := by simpa using h2
  subst e1
  obtain ⟨g, off, rfl, -, l0, l1, l2, l3⟩ := h1.brk (i := 0) (p := x) rfl
  have hk := h1.2 x (by simp)
  obtain ⟨av, cv, ev⟩ := hk.1.form
  have hvn : x.vn = x.ks.length := by unfold Br.v at ev; injection ev
  simp only [Nat.zero_mul, Nat.add_zero] at l0 l1 l2 l3
  rw [hvn] at l3
  exact ⟨g, off, x.a, x.b, x.va, x.vc, rfl, h3 x (by simp), l0, l1, l2, l3⟩
set_option maxHeartbeats 8000000 in
set_option maxRecDepth 20000 in
theorem walk_VowBounds (p q : Int) (a : Option Addr) (cap : Nat) (ops : List Ov) (w : World) (_ : (Lit.int .i64 p).wf = true) (_ : (Lit.int .i64 q).wf = true) (h : RowG w a ops) (hl : ops.length ≤ 1048576) :
    Calls Try.prog 5 #[.int .i64 p, .int .i64 q, .slice a ops.length cap] w fun e w' => e = .returned (.bool true) ∧ Below w.heap.size w w' := by
  obtain ⟨n, hn⟩ : ∃ n, ops.length = n := ⟨_, rfl⟩
  rw [hn] at hl ⊢
  have H : Hid (RowG w a ops ∧ ops.length = n) := ⟨h, hn⟩
  clear h hn
  by_cases hok : 1 ≤ p ∧ p ≤ 32 ∧ 1 ≤ q ∧ q ≤ 16
  · obtain ⟨P, rfl⟩ : ∃ P : Nat, p = P := ⟨p.toNat, by omega⟩
    obtain ⟨Q, rfl⟩ : ∃ Q : Nat, q = Q := ⟨q.toNat, by omega⟩
    have hnew := lv_new w w (Below.refl _ _) 1 P Q (by omega) (by omega) (by omega) (by omega) (by omega) (by omega)
    change Calls Try.prog 9 #[.int .i64 1, .int .i64 P, .int .i64 Q] w _ at hnew
    go_enter Try.func5, Try.ntmps5
    go_upto_region 4 with (go_at_call 9; refine hnew.mono ?_; rintro e w1 ⟨rfl, hL1, -⟩)
    have HL1 : Hid (Lv w w1 w.heap.size (Vs.new 1 P Q) (fun _ => False)) := hL1.mono fun _ h => h.elim
    clear hnew hL1
    go_wp2
    go_loopw [9, 10, 11, 12, 13, 14, 15, 16, 17, 18] (fun s9 _ _ _ _ _ _ _ _ _ wr => ∃ (i : Nat) (S : Vs), s9 = .int .i64 i ∧ i ≤ n ∧ Hid (Lv w wr w.heap.size S (fun _ => False) ∧ S.n ≤ i ∧ S.mp = P ∧ S.mq = Q)) (fun s9 _ _ _ _ _ _ _ _ _ _ => n - (intOf s9).toNat)
    case atStart => exact ⟨0, _, rfl, Nat.zero_le _, HL1.out, Int.le_refl _, rfl, rfl⟩
    case round =>
      rename World => W0
      obtain ⟨i, S, rfl, hi, HI⟩ := hrel
      by_cases hlt : i < n
      · obtain ⟨o, ho⟩ : ∃ o, ops[i]? = some o := ⟨_, List.getElem?_eq_getElem (by rw [H.out.2]; exact hlt)⟩
        obtain ⟨b, off, hga, -, c0, c1, c2, c3, c4, hak⟩ := (H.out.1.below HI.out.1.below).op ho
        subst hga
        have hltz : (i : Int) < (n : Int) := by omega
        have HA : Hid (∀ w3, Below w.heap.size w w3 → ArgK w3 (.slice o.va o.vn o.vc) o.ks) := fun w3 hb => by
          obtain ⟨_, _, _, _, _, _, _, _, _, hk⟩ := (H.out.1.below hb).op ho
          exact hk
        have hp1 := fun W => place_any o.kind 3 W (by omega) (by omega)
        have hk := pl_lt o.kind 3 (by omega)
        obtain ⟨pk, hpk⟩ : ∃ k, pl o.kind 3 = k := ⟨_, rfl⟩
        rw [hpk] at hp1 hk
        change ∀ W, Calls Try.prog 12 #[.int .i64 o.kind, .int .i64 3] W _ at hp1
        clear hpk ho hak
        go_upto_region 8 with fail
        obtain ⟨W1, hW1⟩ : ∃ W, W0.alloc (.cells #[.int .i64 o.kind, .int .i64 o.ver, .int .i64 o.ep, .int .i64 o.num, .slice o.va o.vn o.vc] 33) = W := ⟨_, rfl⟩
        rw [hW1]
        have hb1 : Below W0.heap.size W0 W1 := by rw [← hW1]; exact below_alloc _ _
        have hbox : W1.heap[W0.heap.size]? = some (.cells #[.int .i64 o.kind, .int .i64 o.ver, .int .i64 o.ep, .int .i64 o.num, .slice o.va o.vn o.vc] 33 (0, 0)) := by rw [← hW1]; exact heap_new _ _
        have hL1 := (HI.out.1.on hb1).mono (G := fun k => k = W0.heap.size) fun k hk => .inr ⟨by omega, by have := (Array.getElem?_eq_some_iff.1 hbox).1; omega⟩
        have hpr := lv_promises hL1
        clear hW1
        go_upto_region 9 with (go_at_call 28; refine hpr.mono ?_; rintro e w2 ⟨v11, rfl, hr11, hb2⟩)
        have hL2 := (hL1.on hb2).mono (G := fun k => v11.ownBlock = some k ∨ k = W0.heap.size) fun k hk => by
          rcases hk with hk | hk
          · exact .inr (hr11.lt hk)
          · exact .inl hk
        obtain ⟨ma, mb, hMk, hmark⟩ := lv_mark hL2
        have hbox2 := (hb2.block _ (Array.getElem?_eq_some_iff.1 hbox).1).trans hbox
        obtain ⟨nK, hnK⟩ : ∃ n, S.ks.length = n := ⟨_, rfl⟩
        have hnK2 : nK ≤ 32 := by have h1 := HI.out.1.ks; have h2 := HI.out.2.2.1; omega
        have HB2 : Hid (Below W0.heap.size W0 w2) := chainB hb1 hb2
        have HR2 : Hid (RowK w2 w.heap.size v11 S.ks) := owns_le hr11 (Nat.le_trans HI.out.1.below.size hb1.size)
        obtain ⟨a11, c11, h11⟩ := owns_len hr11
        rw [hnK] at h11
        subst h11
        have HL2 : Hid (Lv w w2 w.heap.size S (fun k => (Value.slice a11 nK c11).ownBlock = some k ∨ k = W0.heap.size) ∧ S.ks.length = nK ∧ Mk ma mb S.e S.n ∧ w2.heap[W0.heap.size]? = some (.cells #[.int .i64 o.kind, .int .i64 o.ver, .int .i64 o.ep, .int .i64 o.num, .slice o.va o.vn o.vc] 33 (0, 0))) := ⟨hL2, hnK, hMk, hbox2⟩
        have q0 := cell_of hbox2 0
        have q1 := cell_of hbox2 1
        have q2 := cell_of hbox2 2
        have q3 := cell_of hbox2 3
        have q4 := cell_of hbox2 4
        simp at q0 q1 q2 q3 q4
        clear hL2 hMk hnK hbox2 hbox hL1 hpr hr11 hb1 hb2 c0 c1 c2 c3 c4
        go_upto_region 12 with (first
          | (go_at_call 26; refine hmark.mono ?_; rintro e w' ⟨rfl, hw'⟩; rw [hw'])
          | (go_at_call 12; refine (hp1 _).mono ?_; rintro e w' ⟨rfl, hw'⟩; rw [hw']))
        rename_i K1 h1 K0 h0
        have key : ∀ (v13 : Value) (w3 : World) (S' : Vs) (L : List Bs), TB w w3 w.heap.size W0.heap.size (.slice a11 nK c11) v13 S S' L o i → ∀ (x6 x14 x15 x16 x17 x18 x48 x49 x50 x51 x52 x53 x54 x55 x56 x57 x58 x59 x60 x61 x62 x63 x64 x65 x66 x67 x68 x69 x70 x71 x72 x73 x74 x75 x76 x77 x78 x79 x80 x81 x82 x83 x84 x85 x86 x87 x88 x89 x90 x91 x92 x93 x94 x95 x96 x97 x98 x99 x100 x101 x102 x103 x104 x105 x106 x107 x108 x109 x110 x111 x112 x113 x114 x115 x116 x117 x118 x119 x120 x121 x122 x123 x124 x125 x126 x127 x128 x129 x130 x131 x132 x133 x134 x135 x136 x137 x138 x139 x140 x141 x142 x143 x144 x145 x146 x147 x148 x149 x150 x151 x152 x153 x154 x155 x156 x157 x158 x159 x160 x161 x162 x163 x164 x165 x166 x167 x168 x169 x170 x171 x172 x173 x174 x175 x176 x177 x178 x179 x180 x181 x182 x183 x184 x185 x186 x187 x188 x189 x190 x191 x192 x193 x194 x195 x196 x197 x198 x199 x200 x201 x202 x203 x204 x205 x206 x207 x208 x209 x210 x211 x212 : Value), K1 ⟨#[.int .i64 P, .int .i64 Q, .slice (some ⟨b, off, none⟩) n cap, undef, undef, undef, x6, .pointer (some ⟨w.heap.size, 0, none⟩), .int .i64 0, .int .i64 i, .pointer (some ⟨W0.heap.size, 0, none⟩), .slice a11 nK c11, .complex .f64 ma mb, v13, x14, x15, x16, x17, x18, .tuple #[.pointer (some ⟨w.heap.size, 0, none⟩), .int .i64 0], .int .i64 P, .int .i64 Q, .tuple #[.pointer (some ⟨w.heap.size, 0, none⟩), .int .i64 0], .pointer (some ⟨w.heap.size, 0, none⟩), .int .i64 0, .int .i64 0, .bool false, .bool false, .pointer (some ⟨w.heap.size, 0, none⟩), .bool false, .bool false, undef, undef, undef, undef, undef, undef, undef, undef, undef, undef, undef, undef, undef, undef, undef, undef, undef, x48, x49, x50, x51, x52, x53, x54, x55, x56, x57, x58, x59, x60, x61, x62, x63, x64, x65, x66, x67, x68, x69, x70, x71, x72, x73, x74, x75, x76, x77, x78, x79, x80, x81, x82, x83, x84, x85, x86, x87, x88, x89, x90, x91, x92, x93, x94, x95, x96, x97, x98, x99, x100, x101, x102, x103, x104, x105, x106, x107, x108, x109, x110, x111, x112, x113, x114, x115, x116, x117, x118, x119, x120, x121, x122, x123, x124, x125, x126, x127, x128, x129, x130, x131, x132, x133, x134, x135, x136, x137, x138, x139, x140, x141, x142, x143, x144, x145, x146, x147, x148, x149, x150, x151, x152, x153, x154, x155, x156, x157, x158, x159, x160, x161, x162, x163, x164, x165, x166, x167, x168, x169, x170, x171, x172, x173, x174, x175, x176, x177, x178, x179, x180, x181, x182, x183, x184, x185, x186, x187, x188, x189, x190, x191, x192, x193, x194, x195, x196, x197, x198, x199, x200, x201, x202, x203, x204, x205, x206, x207, x208, x209, x210, x211, x212, undef], []⟩ w3 := by
          intro v13 w3 S' L hM x6 x14 x15 x16 x17 x18 x48 x49 x50 x51 x52 x53 x54 x55 x56 x57 x58 x59 x60 x61 x62 x63 x64 x65 x66 x67 x68 x69 x70 x71 x72 x73 x74 x75 x76 x77 x78 x79 x80 x81 x82 x83 x84 x85 x86 x87 x88 x89 x90 x91 x92 x93 x94 x95 x96 x97 x98 x99 x100 x101 x102 x103 x104 x105 x106 x107 x108 x109 x110 x111 x112 x113 x114 x115 x116 x117 x118 x119 x120 x121 x122 x123 x124 x125 x126 x127 x128 x129 x130 x131 x132 x133 x134 x135 x136 x137 x138 x139 x140 x141 x142 x143 x144 x145 x146 x147 x148 x149 x150 x151 x152 x153 x154 x155 x156 x157 x158 x159 x160 x161 x162 x163 x164 x165 x166 x167 x168 x169 x170 x171 x172 x173 x174 x175 x176 x177 x178 x179 x180 x181 x182 x183 x184 x185 x186 x187 x188 x189 x190 x191 x192 x193 x194 x195 x196 x197 x198 x199 x200 x201 x202 x203 x204 x205 x206 x207 x208 x209 x210 x211 x212
          obtain ⟨a13, c13, h13⟩ := hM.rt.form
          obtain ⟨nL, hnL⟩ : ∃ n, L.length = n := ⟨_, rfl⟩
          rw [hnL] at h13
          subst h13
          have HM : Hid (TB w w3 w.heap.size W0.heap.size (.slice a11 nK c11) (.slice a13 nL c13) S S' L o i ∧ L.length = nL) := ⟨hM, hnL⟩
          have hpr := lv_promises hM.lv
          have hnL1 : nL ≤ 1 := by
            rw [← hnL]
            rcases hM.bnd.one with ⟨e, -⟩ | ⟨_, _, e, -⟩ <;> rw [e] <;> simp
          clear hM hnL q0 q1 q2 q3 q4
          apply h1
          clear h1 h0 K0
          go_upto_region 19 with (go_at_call 28; refine hpr.mono ?_; rintro e w4 ⟨v14, rfl, hr14, hb4⟩; obtain ⟨a14, c14, h14⟩ := owns_len hr14; subst h14)
          have hL4 := (HM.out.1.lv.on hb4).mono (G := fun _ => False) (fun _ h => h.elim)
          have hqu := lv_queue hL4
          obtain ⟨nN, hnN⟩ : ∃ n, S'.ks.length = n := ⟨_, rfl⟩
          have hnNP : ¬ (P : Int) < (nN : Int) := by have h1 := HM.out.1.lv.ks; have h2 := HM.out.1.same.2.1; have h3 := HI.out.2.2.1; omega
          rw [hnN]
          go_upto_region 20 with (go_at_call 30; refine hqu.mono ?_; rintro e w5 ⟨v15, rfl, hR5, hb5⟩; obtain ⟨a15, c15, h15⟩ := hR5.form; subst h15)
          obtain ⟨nQ, hnQ⟩ : ∃ n, S'.q.length = n := ⟨_, rfl⟩
          have hnQQ : ¬ (Q : Int) < (nQ : Int) := by have h1 := HM.out.1.bnd.room; have h2 := HM.out.1.same.2.2; have h3 := HI.out.2.2.2; omega
          have hnQ16 : nQ ≤ 16 := by omega
          have hnLz : ¬ (1 : Int) < (nL : Int) := by omega
          rw [hnQ] at hR5 ⊢
          have HB5 : Hid (Below w3.heap.size w3 w5) := chainB hb4 hb5
          have HR5 : Hid (Rt w5 w4.heap.size (.slice a15 nQ c15) S'.q S'.e ∧ S'.q.length = nQ) := ⟨hR5, hnQ⟩
          have HL5 : Hid (Lv w w5 w.heap.size S' (fun _ => False)) := (hL4.on hb5).mono fun _ h => h.elim
          clear hR5 hnQ hL4 hqu hpr hr14 hnN hb4 hb5
          go_upto_region 22 with fail
          rename_i K2 h2 K3 h3
          have key2 : ∀ (w6 : World), Below w5.heap.size w5 w6 → ∀ (x6 x16 x17 x18 x48 x49 x50 x51 x52 x53 x54 x55 x56 x57 x58 x59 x60 x61 x62 x63 x64 x65 x66 x67 x68 x69 x70 x71 x72 x73 x74 x75 x76 x77 x78 x79 x80 x81 x82 x83 x84 x85 x86 x87 x88 x89 x90 x91 x92 x93 x94 x95 x96 x97 x98 x99 x100 x101 x102 x103 x104 x105 x106 x107 x108 x109 x110 x111 x112 x113 x114 x115 x116 x117 x118 x119 x120 x121 x122 x123 x124 x125 x126 x127 x128 x129 x130 x131 x132 x133 x134 x135 x136 x137 x138 x139 x140 x141 x142 x143 x144 x145 x146 x147 x148 x149 x150 x151 x152 x153 x154 x155 x156 x157 x158 x159 x160 x161 x162 x163 x164 x165 x166 x167 x168 x169 x170 x171 x172 x173 x174 x175 x176 x177 x178 x179 x180 x181 x182 x183 x184 x185 x186 x187 x188 x189 x190 x191 x192 x193 x194 x195 x196 x197 x198 x199 x200 x201 x202 x203 x204 x205 x206 x207 x208 x209 x210 x211 x212 : Value), K2 ⟨#[.int .i64 P, .int .i64 Q, .slice (some ⟨b, off, none⟩) n cap, undef, undef, undef, x6, .pointer (some ⟨w.heap.size, 0, none⟩), .int .i64 0, .int .i64 i, .pointer (some ⟨W0.heap.size, 0, none⟩), .slice a11 nK c11, .complex .f64 ma mb, .slice a13 nL c13, .slice a14 nN c14, .slice a15 nQ c15, x16, x17, x18, .tuple #[.pointer (some ⟨w.heap.size, 0, none⟩), .int .i64 0], .int .i64 P, .int .i64 Q, .tuple #[.pointer (some ⟨w.heap.size, 0, none⟩), .int .i64 0], .pointer (some ⟨w.heap.size, 0, none⟩), .int .i64 0, .int .i64 0, .bool false, .bool false, .pointer (some ⟨w.heap.size, 0, none⟩), .bool false, .bool false, undef, undef, undef, undef, undef, undef, undef, undef, undef, undef, undef, undef, undef, undef, undef, undef, undef, x48, x49, x50, x51, x52, x53, x54, x55, x56, x57, x58, x59, x60, x61, x62, x63, x64, x65, x66, x67, x68, x69, x70, x71, x72, x73, x74, x75, x76, x77, x78, x79, x80, x81, x82, x83, x84, x85, x86, x87, x88, x89, x90, x91, x92, x93, x94, x95, x96, x97, x98, x99, x100, x101, x102, x103, x104, x105, x106, x107, x108, x109, x110, x111, x112, x113, x114, x115, x116, x117, x118, x119, x120, x121, x122, x123, x124, x125, x126, x127, x128, x129, x130, x131, x132, x133, x134, x135, x136, x137, x138, x139, x140, x141, x142, x143, x144, x145, x146, x147, x148, x149, x150, x151, x152, x153, x154, x155, x156, x157, x158, x159, x160, x161, x162, x163, x164, x165, x166, x167, x168, x169, x170, x171, x172, x173, x174, x175, x176, x177, x178, x179, x180, x181, x182, x183, x184, x185, x186, x187, x188, x189, x190, x191, x192, x193, x194, x195, x196, x197, x198, x199, x200, x201, x202, x203, x204, x205, x206, x207, x208, x209, x210, x211, x212, undef], []⟩ w6 := by
            intro w6 hb6 x6 x16 x17 x18 x48 x49 x50 x51 x52 x53 x54 x55 x56 x57 x58 x59 x60 x61 x62 x63 x64 x65 x66 x67 x68 x69 x70 x71 x72 x73 x74 x75 x76 x77 x78 x79 x80 x81 x82 x83 x84 x85 x86 x87 x88 x89 x90 x91 x92 x93 x94 x95 x96 x97 x98 x99 x100 x101 x102 x103 x104 x105 x106 x107 x108 x109 x110 x111 x112 x113 x114 x115 x116 x117 x118 x119 x120 x121 x122 x123 x124 x125 x126 x127 x128 x129 x130 x131 x132 x133 x134 x135 x136 x137 x138 x139 x140 x141 x142 x143 x144 x145 x146 x147 x148 x149 x150 x151 x152 x153 x154 x155 x156 x157 x158 x159 x160 x161 x162 x163 x164 x165 x166 x167 x168 x169 x170 x171 x172 x173 x174 x175 x176 x177 x178 x179 x180 x181 x182 x183 x184 x185 x186 x187 x188 x189 x190 x191 x192 x193 x194 x195 x196 x197 x198 x199 x200 x201 x202 x203 x204 x205 x206 x207 x208 x209 x210 x211 x212
            have HB6 : Hid (Below w5.heap.size w5 w6) := hb6
            clear hb6
            apply h2
            clear h2 h3 K3
            go_wp2
            go_loopw [18] (fun s18 wr => ∃ k : Nat, s18 = .int .i64 k ∧ k ≤ nK ∧ Hid (Below w5.heap.size w5 wr)) (fun s18 _ => nK - (intOf s18).toNat)
            case atStart => exact ⟨0, rfl, Nat.zero_le _, HB6.out⟩
            case round =>
              rename World => W6
              obtain ⟨k, rfl, hkn, HW⟩ := hrel
              by_cases hlk : k < nK
              · obtain ⟨x, hx⟩ : ∃ x, S.ks[k]? = some x := ⟨_, List.getElem?_eq_getElem (by rw [HL2.out.2.1]; exact hlk)⟩
                have hlkz : (k : Int) < (nK : Int) := by omega
                obtain ⟨g9, hg9, -, -, y0, y1, -⟩ := (HM.out.1.row.below (chainB HB5.out HW.out)).key hx
                subst hg9
                have hho := lv_holds (((HL5.out.on HW.out).mono (G := fun _ => False) (fun _ h => h.elim)).drew) x
                unfold Ky.agg at hho
                cases hin : inK S'.ks x with
                | true =>
                  rw [hin] at hho
                  clear hx hin
                  go_upto_region 31 with fail
                  refine wp_region_held_drew (S := fun w' => w'.cell? ⟨g9, k * 2, none⟩ = some (.int .i64 x.d) ∧ w'.cell? ⟨g9, k * 2 + 1, none⟩ = some (.string x.nm)) (by kernel_rfl) ⟨y0, y1⟩ (fun hHeld => ?_)
                  refine tky 0 (some 182) rfl rfl ⟨?vA0, fun w hSw => ?aA0, fun _ _ _ h => h, ?bA0⟩
                  case aA0 => (try dsimp only at hSw); go_simp; (try rfl)
                  try simp only [Act.put, List.setIfInBounds_toArray, List.set_cons_zero, List.set_cons_succ]
                  refine tky 1 (some 183) rfl rfl ⟨?vA1, fun w hSw => ?aA1, fun _ _ _ h => h, ?bA1⟩
                  case aA1 => (try dsimp only at hSw); go_simp; (try rfl)
                  try simp only [Act.put, List.setIfInBounds_toArray, List.set_cons_zero, List.set_cons_succ]
                  refine tky 2 (some 184) rfl rfl ⟨?vA2, fun w hSw => ?aA2, fun _ _ _ h => h, ?bA2⟩
                  case aA2 => (try dsimp only at hSw); go_simp; (try rfl)
                  try simp only [Act.put, List.setIfInBounds_toArray, List.set_cons_zero, List.set_cons_succ]
                  refine tky 3 (some 185) rfl rfl ⟨?vA3, fun w hSw => ?aA3, fun _ _ _ h => h, ?bA3⟩
                  case aA3 => (try dsimp only at hSw); go_simp; (try rfl)
                  try simp only [Act.put, List.setIfInBounds_toArray, List.set_cons_zero, List.set_cons_succ]
                  refine tky 4 (some 186) rfl rfl ⟨?vA4, fun w hSw => ?aA4, fun _ _ _ h => h, ?bA4⟩
                  case aA4 => (try dsimp only at hSw); go_simp; (try rfl)
                  try simp only [Act.put, List.setIfInBounds_toArray, List.set_cons_zero, List.set_cons_succ]
                  refine wpAnyH_ready (rs := [5]) (by kernel_rfl) (by simp) ?_
                  refine AllReadyH.cons rfl (fun K hK => ?_) AllReadyH.nil
                  go_simp
                  go_at_call 14
                  refine hho.mono ?_
                  rintro e w7 ⟨rfl, hb70⟩
                  have hb7 := undrew hb70
                  have k7 : w7.cell? ⟨g9, k * 2, none⟩ = some (.int .i64 x.d) ∧ w7.cell? ⟨g9, k * 2 + 1, none⟩ = some (.string x.nm) := keep2 ⟨y0, y1⟩ hb7
                  refine hK.out _ _ k7 (fun hHeld => ?_)
                  clear hK K
                  try simp only [Act.put, List.setIfInBounds_toArray, List.set_cons_zero, List.set_cons_succ]
                  refine tky 6 (some 188) rfl rfl ⟨?vA6, fun w hSw => ?aA6, fun _ _ _ h => h, ?bA6⟩
                  case aA6 => (try dsimp only at hSw); go_simp; (try rfl)
                  try simp only [Act.put, List.setIfInBounds_toArray, List.set_cons_zero, List.set_cons_succ]
                  refine tky 7 (some 189) rfl rfl ⟨?vA7, fun w hSw => ?aA7, fun _ _ _ h => h, ?bA7⟩
                  case aA7 => (try dsimp only at hSw); go_simp; (try rfl)
                  try simp only [Act.put, List.setIfInBounds_toArray, List.set_cons_zero, List.set_cons_succ]
                  refine tkn 8 (some 190) rfl rfl ?_
                  try simp only [Act.put, List.setIfInBounds_toArray, List.set_cons_zero, List.set_cons_succ]
                  refine tkn 9 (some 191) rfl rfl ?_
                  try simp only [Act.put, List.setIfInBounds_toArray, List.set_cons_zero, List.set_cons_succ]
                  refine tkn 10 (some 192) rfl rfl ?_
                  try simp only [Act.put, List.setIfInBounds_toArray, List.set_cons_zero, List.set_cons_succ]
                  refine tkn 11 (some 193) rfl rfl ?_
                  try simp only [Act.put, List.setIfInBounds_toArray, List.set_cons_zero, List.set_cons_succ]
                  refine tkn 12 (some 194) rfl rfl ?_
                  try simp only [Act.put, List.setIfInBounds_toArray, List.set_cons_zero, List.set_cons_succ]
                  refine tkn 13 (some 195) rfl rfl ?_
                  try simp only [Act.put, List.setIfInBounds_toArray, List.set_cons_zero, List.set_cons_succ]
                  refine tkn 14 (some 196) rfl rfl ?_
                  try simp only [Act.put, List.setIfInBounds_toArray, List.set_cons_zero, List.set_cons_succ]
                  refine tkn 15 (some 197) rfl rfl ?_
                  try simp only [Act.put, List.setIfInBounds_toArray, List.set_cons_zero, List.set_cons_succ]
                  refine tkn 16 (some 198) rfl rfl ?_
                  try simp only [Act.put, List.setIfInBounds_toArray, List.set_cons_zero, List.set_cons_succ]
                  refine tkn 17 (some 199) rfl rfl ?_
                  try simp only [Act.put, List.setIfInBounds_toArray, List.set_cons_zero, List.set_cons_succ]
                  refine tkn 18 (some 200) rfl rfl ?_
                  try simp only [Act.put, List.setIfInBounds_toArray, List.set_cons_zero, List.set_cons_succ]
                  refine tkn 19 (some 201) rfl rfl ?_
                  try simp only [Act.put, List.setIfInBounds_toArray, List.set_cons_zero, List.set_cons_succ]
                  refine tkn 20 (some 202) rfl rfl ?_
                  try simp only [Act.put, List.setIfInBounds_toArray, List.set_cons_zero, List.set_cons_succ]
                  refine tkn 21 (some 203) rfl rfl ?_
                  try simp only [Act.put, List.setIfInBounds_toArray, List.set_cons_zero, List.set_cons_succ]
                  refine tkn 22 (some 204) rfl rfl ?_
                  try simp only [Act.put, List.setIfInBounds_toArray, List.set_cons_zero, List.set_cons_succ]
                  refine tkn 23 (some 205) rfl rfl ?_
                  try simp only [Act.put, List.setIfInBounds_toArray, List.set_cons_zero, List.set_cons_succ]
                  refine tkn 24 (some 206) rfl rfl ?_
                  try simp only [Act.put, List.setIfInBounds_toArray, List.set_cons_zero, List.set_cons_succ]
                  refine tkn 25 (some 207) rfl rfl ?_
                  try simp only [Act.put, List.setIfInBounds_toArray, List.set_cons_zero, List.set_cons_succ]
                  refine tkn 26 (some 208) rfl rfl ?_
                  try simp only [Act.put, List.setIfInBounds_toArray, List.set_cons_zero, List.set_cons_succ]
                  refine tkn 27 (some 209) rfl rfl ?_
                  try simp only [Act.put, List.setIfInBounds_toArray, List.set_cons_zero, List.set_cons_succ]
                  refine tkn 28 (some 210) rfl rfl ?_
                  try simp only [Act.put, List.setIfInBounds_toArray, List.set_cons_zero, List.set_cons_succ]
                  refine tkn 29 (some 211) rfl rfl ?_
                  try simp only [Act.put, List.setIfInBounds_toArray, List.set_cons_zero, List.set_cons_succ]
                  refine tky 30 (some 212) rfl rfl ⟨?vA30, fun w hSw => ?aA30, fun _ _ _ h => h, ?bA30⟩
                  case aA30 => (try dsimp only at hSw); go_simp; (try rfl)
                  try simp only [Act.put, List.setIfInBounds_toArray, List.set_cons_zero, List.set_cons_succ]
                  refine wpAnyH_done (by kernel_rfl) ?_ _
                  go_wp2
                  exact ⟨⟨k + 1, by simp, by omega, chainB HW.out hb7⟩, by simp [intOf]; omega⟩
                | false =>
                  obtain ⟨bk, hbk, hbx⟩ : ∃ bk, L = [bk] ∧ (bk.all = true ∨ x ∈ bk.ks) := by
                    rcases HM.out.1.bnd.was x (List.mem_of_getElem? hx) with e | ⟨bk, e1, e2⟩
                    · rw [(inK_iff _ _).2 e] at hin; cases hin
                    · rcases HM.out.1.bnd.one with ⟨e, -⟩ | ⟨b', _, e, -⟩
                      · rw [e] at e1; cases e1
                      · rw [e, List.mem_singleton] at e1; subst e1; exact ⟨_, e, e2⟩
                  obtain rfl : nL = 1 := by rw [← HM.out.2, hbk]; rfl
                  obtain ⟨gb, ob, va, vn, vc, ha12, l2, l3, hak⟩ := (HM.out.1.rt.below (chainB HB5.out HW.out)).at (j := 0) (b := bk) (by rw [hbk]; rfl)
                  subst ha12
                  simp only [Nat.zero_mul, Nat.add_zero] at l2 l3
                  rw [hin] at hho
                  cases hall : bk.all with
                  | true =>
                    rw [hall] at l2
                    clear hx hin hbx hbk hak hall
                    go_upto_region 31 with fail
                    refine wp_region_held_drew (S := fun w' => w'.cell? ⟨g9, k * 2, none⟩ = some (.int .i64 x.d) ∧ w'.cell? ⟨g9, k * 2 + 1, none⟩ = some (.string x.nm) ∧ w'.cell? ⟨gb, ob + 2, none⟩ = some (.bool true) ∧ w'.cell? ⟨gb, ob + 3, none⟩ = some (.slice va vn vc)) (by kernel_rfl) ⟨y0, y1, l2, l3⟩ (fun hHeld => ?_)
                    refine tky 0 (some 182) rfl rfl ⟨?vB0, fun w hSw => ?aB0, fun _ _ _ h => h, ?bB0⟩
                    case aB0 => (try dsimp only at hSw); go_simp; (try rfl)
                    try simp only [Act.put, List.setIfInBounds_toArray, List.set_cons_zero, List.set_cons_succ]
                    refine tky 1 (some 183) rfl rfl ⟨?vB1, fun w hSw => ?aB1, fun _ _ _ h => h, ?bB1⟩
                    case aB1 => (try dsimp only at hSw); go_simp; (try rfl)
                    try simp only [Act.put, List.setIfInBounds_toArray, List.set_cons_zero, List.set_cons_succ]
                    refine tky 2 (some 184) rfl rfl ⟨?vB2, fun w hSw => ?aB2, fun _ _ _ h => h, ?bB2⟩
                    case aB2 => (try dsimp only at hSw); go_simp; (try rfl)
                    try simp only [Act.put, List.setIfInBounds_toArray, List.set_cons_zero, List.set_cons_succ]
                    refine tky 3 (some 185) rfl rfl ⟨?vB3, fun w hSw => ?aB3, fun _ _ _ h => h, ?bB3⟩
                    case aB3 => (try dsimp only at hSw); go_simp; (try rfl)
                    try simp only [Act.put, List.setIfInBounds_toArray, List.set_cons_zero, List.set_cons_succ]
                    refine tky 4 (some 186) rfl rfl ⟨?vB4, fun w hSw => ?aB4, fun _ _ _ h => h, ?bB4⟩
                    case aB4 => (try dsimp only at hSw); go_simp; (try rfl)
                    try simp only [Act.put, List.setIfInBounds_toArray, List.set_cons_zero, List.set_cons_succ]
                    refine wpAnyH_ready (rs := [5]) (by kernel_rfl) (by simp) ?_
                    refine AllReadyH.cons rfl (fun K hK => ?_) AllReadyH.nil
                    go_simp
                    go_at_call 14
                    refine hho.mono ?_
                    rintro e w7 ⟨rfl, hb70⟩
                    have hb7 := undrew hb70
                    have k7 : w7.cell? ⟨g9, k * 2, none⟩ = some (.int .i64 x.d) ∧ w7.cell? ⟨g9, k * 2 + 1, none⟩ = some (.string x.nm) ∧ w7.cell? ⟨gb, ob + 2, none⟩ = some (.bool true) ∧ w7.cell? ⟨gb, ob + 3, none⟩ = some (.slice va vn vc) := keep4 ⟨y0, y1, l2, l3⟩ hb7
                    refine hK.out _ _ k7 (fun hHeld => ?_)
                    clear hK K
                    try simp only [Act.put, List.setIfInBounds_toArray, List.set_cons_zero, List.set_cons_succ]
                    refine tky 6 (some 188) rfl rfl ⟨?vB6, fun w hSw => ?aB6, fun _ _ _ h => h, ?bB6⟩
                    case aB6 => (try dsimp only at hSw); go_simp; (try rfl)
                    try simp only [Act.put, List.setIfInBounds_toArray, List.set_cons_zero, List.set_cons_succ]
                    refine tky 7 (some 189) rfl rfl ⟨?vB7, fun w hSw => ?aB7, fun _ _ _ h => h, ?bB7⟩
                    case aB7 => (try dsimp only at hSw); go_simp; (try rfl)
                    try simp only [Act.put, List.setIfInBounds_toArray, List.set_cons_zero, List.set_cons_succ]
                    refine tky 8 (some 190) rfl rfl ⟨?vB8, fun w hSw => ?aB8, fun _ _ _ h => h, ?bB8⟩
                    case aB8 => (try dsimp only at hSw); go_simp; (try rfl)
                    try simp only [Act.put, List.setIfInBounds_toArray, List.set_cons_zero, List.set_cons_succ]
                    refine tky 9 (some 191) rfl rfl ⟨?vB9, fun w hSw => ?aB9, fun _ _ _ h => h, ?bB9⟩
                    case aB9 => (try dsimp only at hSw); go_simp; (try rfl)
                    try simp only [Act.put, List.setIfInBounds_toArray, List.set_cons_zero, List.set_cons_succ]
                    refine tky 10 (some 192) rfl rfl ⟨.bool false, fun w hSw => ?aB10, fun _ _ _ h => h, ?bB10⟩
                    case aB10 => (try dsimp only at hSw); go_simp; (try rfl)
                    try simp only [Act.put, List.setIfInBounds_toArray, List.set_cons_zero, List.set_cons_succ]
                    refine tky 11 (some 193) rfl rfl ⟨?vB11, fun w hSw => ?aB11, fun _ _ _ h => h, ?bB11⟩
                    case aB11 => (try dsimp only at hSw); go_simp; (try rfl)
                    try simp only [Act.put, List.setIfInBounds_toArray, List.set_cons_zero, List.set_cons_succ]
                    refine tky 12 (some 194) rfl rfl ⟨?vB12, fun w hSw => ?aB12, fun _ _ _ h => h, ?bB12⟩
                    case aB12 => (try dsimp only at hSw); go_simp; (try rfl)
                    try simp only [Act.put, List.setIfInBounds_toArray, List.set_cons_zero, List.set_cons_succ]
                    refine tky 13 (some 195) rfl rfl ⟨?vB13, fun w hSw => ?aB13, fun _ _ _ h => h, ?bB13⟩
                    case aB13 => (try dsimp only at hSw); go_simp; (try rfl)
                    try simp only [Act.put, List.setIfInBounds_toArray, List.set_cons_zero, List.set_cons_succ]
                    refine tky 14 (some 196) rfl rfl ⟨?vB14, fun w hSw => ?aB14, fun _ _ _ h => h, ?bB14⟩
                    case aB14 => (try dsimp only at hSw); go_simp; (try rfl)
                    try simp only [Act.put, List.setIfInBounds_toArray, List.set_cons_zero, List.set_cons_succ]
                    refine tky 15 (some 197) rfl rfl ⟨.bool true, fun w hSw => ?aB15, fun _ _ _ h => h, ?bB15⟩
                    case aB15 => (try dsimp only at hSw); go_simp; (try rfl)
                    try simp only [Act.put, List.setIfInBounds_toArray, List.set_cons_zero, List.set_cons_succ]
                    refine tky 16 (some 198) rfl rfl ⟨?vB16, fun w hSw => ?aB16, fun _ _ _ h => h, ?bB16⟩
                    case aB16 => (try dsimp only at hSw); go_simp; (try rfl)
                    try simp only [Act.put, List.setIfInBounds_toArray, List.set_cons_zero, List.set_cons_succ]
                    refine tky 17 (some 199) rfl rfl ⟨?vB17, fun w hSw => ?aB17, fun _ _ _ h => h, ?bB17⟩
                    case aB17 => (try dsimp only at hSw); go_simp; (try rfl)
                    try simp only [Act.put, List.setIfInBounds_toArray, List.set_cons_zero, List.set_cons_succ]
                    refine tkn 18 (some 200) rfl rfl ?_
                    try simp only [Act.put, List.setIfInBounds_toArray, List.set_cons_zero, List.set_cons_succ]
                    refine tkn 19 (some 201) rfl rfl ?_
                    try simp only [Act.put, List.setIfInBounds_toArray, List.set_cons_zero, List.set_cons_succ]
                    refine tkn 20 (some 202) rfl rfl ?_
                    try simp only [Act.put, List.setIfInBounds_toArray, List.set_cons_zero, List.set_cons_succ]
                    refine tkn 21 (some 203) rfl rfl ?_
                    try simp only [Act.put, List.setIfInBounds_toArray, List.set_cons_zero, List.set_cons_succ]
                    refine tkn 22 (some 204) rfl rfl ?_
                    try simp only [Act.put, List.setIfInBounds_toArray, List.set_cons_zero, List.set_cons_succ]
                    refine tkn 23 (some 205) rfl rfl ?_
                    try simp only [Act.put, List.setIfInBounds_toArray, List.set_cons_zero, List.set_cons_succ]
                    refine tkn 24 (some 206) rfl rfl ?_
                    try simp only [Act.put, List.setIfInBounds_toArray, List.set_cons_zero, List.set_cons_succ]
                    refine tkn 25 (some 207) rfl rfl ?_
                    try simp only [Act.put, List.setIfInBounds_toArray, List.set_cons_zero, List.set_cons_succ]
                    refine tkn 26 (some 208) rfl rfl ?_
                    try simp only [Act.put, List.setIfInBounds_toArray, List.set_cons_zero, List.set_cons_succ]
                    refine tkn 27 (some 209) rfl rfl ?_
                    try simp only [Act.put, List.setIfInBounds_toArray, List.set_cons_zero, List.set_cons_succ]
                    refine tky 28 (some 210) rfl rfl ⟨?vB28, fun w hSw => ?aB28, fun _ _ _ h => h, ?bB28⟩
                    case aB28 => (try dsimp only at hSw); go_simp; (try rfl)
                    try simp only [Act.put, List.setIfInBounds_toArray, List.set_cons_zero, List.set_cons_succ]
                    refine tky 29 (some 211) rfl rfl ⟨?vB29, fun w hSw => ?aB29, fun _ _ _ h => h, ?bB29⟩
                    case aB29 => (try dsimp only at hSw); go_simp; (try rfl)
                    try simp only [Act.put, List.setIfInBounds_toArray, List.set_cons_zero, List.set_cons_succ]
                    refine tky 30 (some 212) rfl rfl ⟨?vB30, fun w hSw => ?aB30, fun _ _ _ h => h, ?bB30⟩
                    case aB30 => (try dsimp only at hSw); go_simp; (try rfl)
                    try simp only [Act.put, List.setIfInBounds_toArray, List.set_cons_zero, List.set_cons_succ]
                    refine wpAnyH_done (by kernel_rfl) ?_ _
                    go_wp2
                    exact ⟨⟨k + 1, by simp, by omega, chainB HW.out hb7⟩, by simp [intOf]; omega⟩
                  | false =>
                    have hxk : inK bk.ks x = true := (inK_iff _ _).2 (by rcases hbx with e | e; · rw [hall] at e; cases e
                                                                         · exact e)
                    rw [hall] at l2
                    have HIn : Hid (∀ W', Below W6.heap.size W6 W' → Calls Try.prog 32 #[.slice va vn vc, .agg #[.int .i64 x.d, .string x.nm]] W' fun e w' => e = .returned (.bool true) ∧ Below W'.heap.size W' w') := fun W' hb => by
                      have := in_any _ x bk.ks W' (hak.below hb)
                      rw [hxk] at this; exact this
                    clear hx hin hbx hbk hak hall hxk
                    go_upto_region 31 with fail
                    refine wp_region_held_drew (S := fun w' => w'.cell? ⟨g9, k * 2, none⟩ = some (.int .i64 x.d) ∧ w'.cell? ⟨g9, k * 2 + 1, none⟩ = some (.string x.nm) ∧ w'.cell? ⟨gb, ob + 2, none⟩ = some (.bool false) ∧ w'.cell? ⟨gb, ob + 3, none⟩ = some (.slice va vn vc)) (by kernel_rfl) ⟨y0, y1, l2, l3⟩ (fun hHeld => ?_)
                    refine tky 0 (some 182) rfl rfl ⟨?vC0, fun w hSw => ?aC0, fun _ _ _ h => h, ?bC0⟩
                    case aC0 => (try dsimp only at hSw); go_simp; (try rfl)
                    try simp only [Act.put, List.setIfInBounds_toArray, List.set_cons_zero, List.set_cons_succ]
                    refine tky 1 (some 183) rfl rfl ⟨?vC1, fun w hSw => ?aC1, fun _ _ _ h => h, ?bC1⟩
                    case aC1 => (try dsimp only at hSw); go_simp; (try rfl)
                    try simp only [Act.put, List.setIfInBounds_toArray, List.set_cons_zero, List.set_cons_succ]
                    refine tky 2 (some 184) rfl rfl ⟨?vC2, fun w hSw => ?aC2, fun _ _ _ h => h, ?bC2⟩
                    case aC2 => (try dsimp only at hSw); go_simp; (try rfl)
                    try simp only [Act.put, List.setIfInBounds_toArray, List.set_cons_zero, List.set_cons_succ]
                    refine tky 3 (some 185) rfl rfl ⟨?vC3, fun w hSw => ?aC3, fun _ _ _ h => h, ?bC3⟩
                    case aC3 => (try dsimp only at hSw); go_simp; (try rfl)
                    try simp only [Act.put, List.setIfInBounds_toArray, List.set_cons_zero, List.set_cons_succ]
                    refine tky 4 (some 186) rfl rfl ⟨?vC4, fun w hSw => ?aC4, fun _ _ _ h => h, ?bC4⟩
                    case aC4 => (try dsimp only at hSw); go_simp; (try rfl)
                    try simp only [Act.put, List.setIfInBounds_toArray, List.set_cons_zero, List.set_cons_succ]
                    refine wpAnyH_ready (rs := [5]) (by kernel_rfl) (by simp) ?_
                    refine AllReadyH.cons rfl (fun K hK => ?_) AllReadyH.nil
                    go_simp
                    go_at_call 14
                    refine hho.mono ?_
                    rintro e w7 ⟨rfl, hb70⟩
                    have hb7 := undrew hb70
                    have k7 : w7.cell? ⟨g9, k * 2, none⟩ = some (.int .i64 x.d) ∧ w7.cell? ⟨g9, k * 2 + 1, none⟩ = some (.string x.nm) ∧ w7.cell? ⟨gb, ob + 2, none⟩ = some (.bool false) ∧ w7.cell? ⟨gb, ob + 3, none⟩ = some (.slice va vn vc) := keep4 ⟨y0, y1, l2, l3⟩ hb7
                    refine hK.out _ _ k7 (fun hHeld => ?_)
                    clear hK K
                    try simp only [Act.put, List.setIfInBounds_toArray, List.set_cons_zero, List.set_cons_succ]
                    refine tky 6 (some 188) rfl rfl ⟨?vC6, fun w hSw => ?aC6, fun _ _ _ h => h, ?bC6⟩
                    case aC6 => (try dsimp only at hSw); go_simp; (try rfl)
                    try simp only [Act.put, List.setIfInBounds_toArray, List.set_cons_zero, List.set_cons_succ]
                    refine tky 7 (some 189) rfl rfl ⟨?vC7, fun w hSw => ?aC7, fun _ _ _ h => h, ?bC7⟩
                    case aC7 => (try dsimp only at hSw); go_simp; (try rfl)
                    try simp only [Act.put, List.setIfInBounds_toArray, List.set_cons_zero, List.set_cons_succ]
                    refine tky 8 (some 190) rfl rfl ⟨?vC8, fun w hSw => ?aC8, fun _ _ _ h => h, ?bC8⟩
                    case aC8 => (try dsimp only at hSw); go_simp; (try rfl)
                    try simp only [Act.put, List.setIfInBounds_toArray, List.set_cons_zero, List.set_cons_succ]
                    refine tky 9 (some 191) rfl rfl ⟨?vC9, fun w hSw => ?aC9, fun _ _ _ h => h, ?bC9⟩
                    case aC9 => (try dsimp only at hSw); go_simp; (try rfl)
                    try simp only [Act.put, List.setIfInBounds_toArray, List.set_cons_zero, List.set_cons_succ]
                    refine tky 10 (some 192) rfl rfl ⟨.bool false, fun w hSw => ?aC10, fun _ _ _ h => h, ?bC10⟩
                    case aC10 => (try dsimp only at hSw); go_simp; (try rfl)
                    try simp only [Act.put, List.setIfInBounds_toArray, List.set_cons_zero, List.set_cons_succ]
                    refine tky 11 (some 193) rfl rfl ⟨?vC11, fun w hSw => ?aC11, fun _ _ _ h => h, ?bC11⟩
                    case aC11 => (try dsimp only at hSw); go_simp; (try rfl)
                    try simp only [Act.put, List.setIfInBounds_toArray, List.set_cons_zero, List.set_cons_succ]
                    refine tky 12 (some 194) rfl rfl ⟨?vC12, fun w hSw => ?aC12, fun _ _ _ h => h, ?bC12⟩
                    case aC12 => (try dsimp only at hSw); go_simp; (try rfl)
                    try simp only [Act.put, List.setIfInBounds_toArray, List.set_cons_zero, List.set_cons_succ]
                    refine tky 13 (some 195) rfl rfl ⟨?vC13, fun w hSw => ?aC13, fun _ _ _ h => h, ?bC13⟩
                    case aC13 => (try dsimp only at hSw); go_simp; (try rfl)
                    try simp only [Act.put, List.setIfInBounds_toArray, List.set_cons_zero, List.set_cons_succ]
                    refine tky 14 (some 196) rfl rfl ⟨?vC14, fun w hSw => ?aC14, fun _ _ _ h => h, ?bC14⟩
                    case aC14 => (try dsimp only at hSw); go_simp; (try rfl)
                    try simp only [Act.put, List.setIfInBounds_toArray, List.set_cons_zero, List.set_cons_succ]
                    refine tky 15 (some 197) rfl rfl ⟨.bool false, fun w hSw => ?aC15, fun _ _ _ h => h, ?bC15⟩
                    case aC15 => (try dsimp only at hSw); go_simp; (try rfl)
                    try simp only [Act.put, List.setIfInBounds_toArray, List.set_cons_zero, List.set_cons_succ]
                    refine tky 16 (some 198) rfl rfl ⟨?vC16, fun w hSw => ?aC16, fun _ _ _ h => h, ?bC16⟩
                    case aC16 => (try dsimp only at hSw); go_simp; (try rfl)
                    try simp only [Act.put, List.setIfInBounds_toArray, List.set_cons_zero, List.set_cons_succ]
                    refine tky 17 (some 199) rfl rfl ⟨?vC17, fun w hSw => ?aC17, fun _ _ _ h => h, ?bC17⟩
                    case aC17 => (try dsimp only at hSw); go_simp; (try rfl)
                    try simp only [Act.put, List.setIfInBounds_toArray, List.set_cons_zero, List.set_cons_succ]
                    refine tky 18 (some 200) rfl rfl ⟨?vC18, fun w hSw => ?aC18, fun _ _ _ h => h, ?bC18⟩
                    case aC18 => (try dsimp only at hSw); go_simp; (try rfl)
                    try simp only [Act.put, List.setIfInBounds_toArray, List.set_cons_zero, List.set_cons_succ]
                    refine tky 19 (some 201) rfl rfl ⟨?vC19, fun w hSw => ?aC19, fun _ _ _ h => h, ?bC19⟩
                    case aC19 => (try dsimp only at hSw); go_simp; (try rfl)
                    try simp only [Act.put, List.setIfInBounds_toArray, List.set_cons_zero, List.set_cons_succ]
                    refine tky 20 (some 202) rfl rfl ⟨?vC20, fun w hSw => ?aC20, fun _ _ _ h => h, ?bC20⟩
                    case aC20 => (try dsimp only at hSw); go_simp; (try rfl)
                    try simp only [Act.put, List.setIfInBounds_toArray, List.set_cons_zero, List.set_cons_succ]
                    refine tky 21 (some 203) rfl rfl ⟨?vC21, fun w hSw => ?aC21, fun _ _ _ h => h, ?bC21⟩
                    case aC21 => (try dsimp only at hSw); go_simp; (try rfl)
                    try simp only [Act.put, List.setIfInBounds_toArray, List.set_cons_zero, List.set_cons_succ]
                    refine tky 22 (some 204) rfl rfl ⟨?vC22, fun w hSw => ?aC22, fun _ _ _ h => h, ?bC22⟩
                    case aC22 => (try dsimp only at hSw); go_simp; (try rfl)
                    try simp only [Act.put, List.setIfInBounds_toArray, List.set_cons_zero, List.set_cons_succ]
                    refine tky 23 (some 205) rfl rfl ⟨?vC23, fun w hSw => ?aC23, fun _ _ _ h => h, ?bC23⟩
                    case aC23 => (try dsimp only at hSw); go_simp; (try rfl)
                    try simp only [Act.put, List.setIfInBounds_toArray, List.set_cons_zero, List.set_cons_succ]
                    refine tky 24 (some 206) rfl rfl ⟨?vC24, fun w hSw => ?aC24, fun _ _ _ h => h, ?bC24⟩
                    case aC24 => (try dsimp only at hSw); go_simp; (try rfl)
                    try simp only [Act.put, List.setIfInBounds_toArray, List.set_cons_zero, List.set_cons_succ]
                    refine tky 25 (some 207) rfl rfl ⟨?vC25, fun w hSw => ?aC25, fun _ _ _ h => h, ?bC25⟩
                    case aC25 => (try dsimp only at hSw); go_simp; (try rfl)
                    try simp only [Act.put, List.setIfInBounds_toArray, List.set_cons_zero, List.set_cons_succ]
                    refine wpAnyH_ready (rs := [26]) (by kernel_rfl) (by simp) ?_
                    refine AllReadyH.cons rfl (fun K hK => ?_) AllReadyH.nil
                    go_simp
                    go_at_call 32
                    refine (HIn.out _ hb7).mono ?_
                    rintro e w8 ⟨rfl, hb8⟩
                    have k8 : w8.cell? ⟨g9, k * 2, none⟩ = some (.int .i64 x.d) ∧ w8.cell? ⟨g9, k * 2 + 1, none⟩ = some (.string x.nm) ∧ w8.cell? ⟨gb, ob + 2, none⟩ = some (.bool false) ∧ w8.cell? ⟨gb, ob + 3, none⟩ = some (.slice va vn vc) := keep4 k7 hb8
                    refine hK.out _ _ k8 (fun hHeld => ?_)
                    clear hK K
                    try simp only [Act.put, List.setIfInBounds_toArray, List.set_cons_zero, List.set_cons_succ]
                    refine tky 27 (some 209) rfl rfl ⟨?vC27, fun w hSw => ?aC27, fun _ _ _ h => h, ?bC27⟩
                    case aC27 => (try dsimp only at hSw); go_simp; (try rfl)
                    try simp only [Act.put, List.setIfInBounds_toArray, List.set_cons_zero, List.set_cons_succ]
                    refine tky 28 (some 210) rfl rfl ⟨?vC28, fun w hSw => ?aC28, fun _ _ _ h => h, ?bC28⟩
                    case aC28 => (try dsimp only at hSw); go_simp; (try rfl)
                    try simp only [Act.put, List.setIfInBounds_toArray, List.set_cons_zero, List.set_cons_succ]
                    refine tky 29 (some 211) rfl rfl ⟨?vC29, fun w hSw => ?aC29, fun _ _ _ h => h, ?bC29⟩
                    case aC29 => (try dsimp only at hSw); go_simp; (try rfl)
                    try simp only [Act.put, List.setIfInBounds_toArray, List.set_cons_zero, List.set_cons_succ]
                    refine tky 30 (some 212) rfl rfl ⟨?vC30, fun w hSw => ?aC30, fun _ _ _ h => h, ?bC30⟩
                    case aC30 => (try dsimp only at hSw); go_simp; (try rfl)
                    try simp only [Act.put, List.setIfInBounds_toArray, List.set_cons_zero, List.set_cons_succ]
                    refine wpAnyH_done (by kernel_rfl) ?_ _
                    go_wp2
                    exact ⟨⟨k + 1, by simp, by omega, chainB HW.out (chainB hb7 hb8)⟩, by simp [intOf]; omega⟩
              · obtain rfl : k = nK := by omega
                have hlkz : ¬ (k : Int) < (k : Int) := by omega
                go_wp2
                exact ⟨⟨i + 1, S', rfl, by omega, (HL5.out.on HW.out).mono (fun _ h => h.elim), HM.out.1.n, HM.out.1.same.2.1.trans HI.out.2.2.1, HM.out.1.same.2.2.trans HI.out.2.2.2⟩, by simp [intOf]; omega⟩
          clear h2
          rcases HM.out.1.bnd.one with ⟨hL0, hn0⟩ | ⟨bk, qq, hL1, hbn, hn1, hbv, hqq, hall⟩
          · obtain rfl : nL = 0 := by rw [← HM.out.2, hL0]; rfl
            obtain ⟨na, nb, hMn, hmk1⟩ := lv_mark HL5.out
            have hMk := HL2.out.2.2.1
            rw [HM.out.1.same.1, hn0] at hMn
            obtain ⟨o1, o2⟩ := mk_eq hMn hMk
            rw [cmp_eq rfl] at o2
            clear hMk hMn hL0 hn0
            go_wp2_with (go_at_call 26; refine hmk1.mono ?_; rintro e w' ⟨rfl, hw'⟩; rw [hw'])
            exact Below.refl _ _
          · obtain rfl : nL = 1 := by rw [← HM.out.2, hL1]; rfl
            obtain ⟨na, nb, hMn, hmk1⟩ := lv_mark HL5.out.drew
            have hMk := HL2.out.2.2.1
            have hnn : S.n ≤ 1048576 := by have := HI.out.2.1; omega
            obtain ⟨ca, cb, va', vb', hnext⟩ := next_yes ma mb hMk.good (by rw [hMk.pb]; omega)
            rw [hMk.pa] at va'
            rw [hMk.pb] at vb'
            have hMc : Mk ca cb S.e (S.n + 1) := ⟨va', vb', hMk.e0, hMk.e1, by have := hMk.n0; omega, by omega⟩
            rw [HM.out.1.same.1, hn1] at hMn
            obtain ⟨o1, o2⟩ := mk_eq hMn hMc
            rw [cmp_eq rfl] at o2
            have hR1 : Rd w5 (.slice a13 1 c13) [bk] S.e := by rw [← hL1]; exact HM.out.1.rt.below HB5.out
            have HR1 : Hid (Rd w5 (.slice a13 1 c13) [bk] S.e) := hR1
            obtain ⟨gb, ob, xa, xb, va, vc, ha13, hMx, l0, l1, l2, l3⟩ := hR1.one
            subst ha13
            rw [hbn] at hMx
            obtain ⟨o3, o4⟩ := mk_eq hMx hMc
            rw [cmp_eq rfl] at o4
            rw [hbv] at l1
            have q1 := cell_of HM.out.1.box 1
            simp at q1
            have q1 := (HB5.out.cell (cellLt q1)).trans q1
            have hm1 : nQ = qq.length + 1 := by rw [← HR5.out.2, hqq, List.length_append]; rfl
            obtain ⟨m, hm⟩ : ∃ m, qq.length = m := ⟨_, rfl⟩
            rw [hm] at hm1
            rcases HR5.out.1.own with ⟨-, h0, -⟩ | ⟨g15, hg15, -, -, hc15⟩
            · omega
            subst hg15
            have HV : Hid (∀ W : World, Below w5.heap.size w5 W → Rd W (.slice (some ⟨g15, m * 4, none⟩) (nQ - m) (c15 - m)) [bk] S.e) := fun W hb => by
              have hc := (HR5.out.1.rd.below hb).cut m (c15 - m) (by omega)
              rw [Nat.zero_add, HM.out.1.same.1, hqq, List.drop_left' hm] at hc
              exact hc
            have hsm : Calls Try.prog 16 #[.slice (some ⟨g15, m * 4, none⟩) (nQ - m) (c15 - m), .slice (some ⟨gb, ob, none⟩) 1 c13] w5.drew fun x w' => x = .returned (.bool true) ∧ Below w5.drew.heap.size w5.drew w' := same_rd (HV.out _ ((Below.refl _ _).drew)) (HR1.out.below ((Below.refl _ _).drew)) (by simp)
            have hq0 : ((nQ : Int) == 0) = false := beq_eq_false_iff_ne.2 (by omega)
            have hwr : IntKind.i64.wrap ((nQ : Int) - 1) = (m : Int) := by rw [IntWalk.i64_in _ (by omega)]; omega
            have hmn : m ≤ nQ := by omega
            have hmc : m < c15 := by omega
            have HK5 : Hid (∀ W : World, Below w5.heap.size w5 W → W.cell? ⟨gb, ob, none⟩ = some (.complex .f64 xa xb) ∧ W.cell? ⟨gb, ob + 1, none⟩ = some (.int .i64 o.ver) ∧ W.cell? ⟨gb, ob + 2, none⟩ = some (.bool bk.all) ∧ W.cell? ⟨gb, ob + 3, none⟩ = some (.slice va bk.ks.length vc) ∧ W.cell? ⟨W0.heap.size, 1, none⟩ = some (.int .i64 o.ver)) := fun W hb => ⟨(hb.cell (cellLt l0)).trans l0, (hb.cell (cellLt l1)).trans l1, (hb.cell (cellLt l2)).trans l2, (hb.cell (cellLt l3)).trans l3, (hb.cell (cellLt q1)).trans q1⟩
            obtain ⟨nb', hnb'⟩ : ∃ n, bk.ks.length = n := ⟨_, rfl⟩
            have hov : (o.ver == o.ver) = true := by simp
            clear hMk hMn hMc hMx hR1 va' vb' hnn hL1 hn1 hbn hbv hqq hm hm1
            obtain ⟨A, hal⟩ : ∃ A, bk.all = A := ⟨_, rfl⟩
            have hnA : ((nb' : Int) == 0) = A := by
              cases A with
              | true =>
                have : nb' = 0 := by rw [← hnb', hall.1 hal]; rfl
                rw [this]; rfl
              | false =>
                refine beq_eq_false_iff_ne.2 ?_
                have : nb' ≠ 0 := fun e => by
                  have := hall.2 (List.length_eq_zero_iff.1 (hnb'.trans e))
                  rw [hal] at this; cases this
                omega
            have hAA : (A != A) = false := by simp
            rw [hal] at l2 HK5
            rw [hnb'] at l3 HK5
            have k0 := HK5.out _ (Below.refl _ _)
            clear hal hall hnb' l0 l1 l2 l3 q1
            go_upto_region 24 with (go_at_call 31; refine (hnext _).mono ?_; rintro e w' ⟨rfl, hw'⟩; rw [hw'])
            refine wp_region_held_drew (S := fun w' => w'.cell? ⟨gb, ob, none⟩ = some (.complex .f64 xa xb) ∧ w'.cell? ⟨gb, ob + 1, none⟩ = some (.int .i64 o.ver) ∧ w'.cell? ⟨gb, ob + 2, none⟩ = some (.bool A) ∧ w'.cell? ⟨gb, ob + 3, none⟩ = some (.slice va nb' vc) ∧ w'.cell? ⟨W0.heap.size, 1, none⟩ = some (.int .i64 o.ver)) (by kernel_rfl) k0 (fun hHeld => ?_)
            refine tky 0 (some 119) rfl rfl ⟨?vEu0, fun w hSw => ?aEu0, fun _ _ _ h => h, ?bEu0⟩
            case aEu0 => (try dsimp only at hSw); go_simp; (try rfl)
            try simp only [Act.put, List.setIfInBounds_toArray, List.set_cons_zero, List.set_cons_succ]
            refine tky 1 (some 120) rfl rfl ⟨.bool false, fun w hSw => ?aEu1, fun _ _ _ h => h, ?bEu1⟩
            case aEu1 => (try dsimp only at hSw); go_simp; (try rfl)
            try simp only [Act.put, List.setIfInBounds_toArray, List.set_cons_zero, List.set_cons_succ]
            refine tky 2 (some 121) rfl rfl ⟨?vEu2, fun w hSw => ?aEu2, fun _ _ _ h => h, ?bEu2⟩
            case aEu2 => (try dsimp only at hSw); go_simp; (try rfl)
            try simp only [Act.put, List.setIfInBounds_toArray, List.set_cons_zero, List.set_cons_succ]
            refine tky 3 (some 122) rfl rfl ⟨?vEu3, fun w hSw => ?aEu3, fun _ _ _ h => h, ?bEu3⟩
            case aEu3 => (try dsimp only at hSw); go_simp; (try rfl)
            try simp only [Act.put, List.setIfInBounds_toArray, List.set_cons_zero, List.set_cons_succ]
            refine tky 4 (some 123) rfl rfl ⟨?vEu4, fun w hSw => ?aEu4, fun _ _ _ h => h, ?bEu4⟩
            case aEu4 => (try dsimp only at hSw); go_simp; (try rfl)
            try simp only [Act.put, List.setIfInBounds_toArray, List.set_cons_zero, List.set_cons_succ]
            refine tky 5 (some 124) rfl rfl ⟨?vEu5, fun w hSw => ?aEu5, fun _ _ _ h => h, ?bEu5⟩
            case aEu5 => (try dsimp only at hSw); go_simp; (try rfl)
            try simp only [Act.put, List.setIfInBounds_toArray, List.set_cons_zero, List.set_cons_succ]
            refine tky 6 (some 125) rfl rfl ⟨?vEu6, fun w hSw => ?aEu6, fun _ _ _ h => h, ?bEu6⟩
            case aEu6 => (try dsimp only at hSw); go_simp; (try rfl)
            try simp only [Act.put, List.setIfInBounds_toArray, List.set_cons_zero, List.set_cons_succ]
            refine tky 7 (some 126) rfl rfl ⟨?vEu7, fun w hSw => ?aEu7, fun _ _ _ h => h, ?bEu7⟩
            case aEu7 => (try dsimp only at hSw); go_simp; (try rfl)
            try simp only [Act.put, List.setIfInBounds_toArray, List.set_cons_zero, List.set_cons_succ]
            refine tky 8 (some 127) rfl rfl ⟨.bool false, fun w hSw => ?aEu8, fun _ _ _ h => h, ?bEu8⟩
            case aEu8 => (try dsimp only at hSw); go_simp; (try rfl)
            try simp only [Act.put, List.setIfInBounds_toArray, List.set_cons_zero, List.set_cons_succ]
            refine tky 9 (some 128) rfl rfl ⟨?vEu9, fun w hSw => ?aEu9, fun _ _ _ h => h, ?bEu9⟩
            case aEu9 => (try dsimp only at hSw); go_simp; (try rfl)
            try simp only [Act.put, List.setIfInBounds_toArray, List.set_cons_zero, List.set_cons_succ]
            refine tky 10 (some 129) rfl rfl ⟨?vEu10, fun w hSw => ?aEu10, fun _ _ _ h => h, ?bEu10⟩
            case aEu10 => (try dsimp only at hSw); go_simp; (try rfl)
            try simp only [Act.put, List.setIfInBounds_toArray, List.set_cons_zero, List.set_cons_succ]
            refine tky 11 (some 130) rfl rfl ⟨?vEu11, fun w hSw => ?aEu11, fun _ _ _ h => h, ?bEu11⟩
            case aEu11 => (try dsimp only at hSw); go_simp; (try rfl)
            try simp only [Act.put, List.setIfInBounds_toArray, List.set_cons_zero, List.set_cons_succ]
            refine tky 13 (some 132) rfl rfl ⟨?vEu13, fun w hSw => ?aEu13, fun _ _ _ h => h, ?bEu13⟩
            case aEu13 => (try dsimp only at hSw); go_simp; (try rfl)
            try simp only [Act.put, List.setIfInBounds_toArray, List.set_cons_zero, List.set_cons_succ]
            refine wpAnyH_ready (rs := [12]) (by kernel_rfl) (by simp) ?_
            refine AllReadyH.cons rfl (fun K hK => ?_) AllReadyH.nil
            go_simp
            go_at_call 26
            refine hmk1.mono ?_
            rintro e w7 ⟨rfl, hw7⟩
            subst hw7
            refine hK.out _ _ k0 (fun hHeld => ?_)
            clear hK K
            try simp only [Act.put, List.setIfInBounds_toArray, List.set_cons_zero, List.set_cons_succ]
            refine tky 14 (some 133) rfl rfl ⟨.bool false, fun w hSw => ?aEu14, fun _ _ _ h => h, ?bEu14⟩
            case aEu14 => (try dsimp only at hSw); go_simp; (try rfl)
            try simp only [Act.put, List.setIfInBounds_toArray, List.set_cons_zero, List.set_cons_succ]
            refine tky 15 (some 134) rfl rfl ⟨?vEu15, fun w hSw => ?aEu15, fun _ _ _ h => h, ?bEu15⟩
            case aEu15 => (try dsimp only at hSw); go_simp; (try rfl)
            try simp only [Act.put, List.setIfInBounds_toArray, List.set_cons_zero, List.set_cons_succ]
            refine tky 16 (some 135) rfl rfl ⟨?vEu16, fun w hSw => ?aEu16, fun _ _ _ h => h, ?bEu16⟩
            case aEu16 => (try dsimp only at hSw); go_simp; (try rfl)
            try simp only [Act.put, List.setIfInBounds_toArray, List.set_cons_zero, List.set_cons_succ]
            refine tky 17 (some 136) rfl rfl ⟨?vEu17, fun w hSw => ?aEu17, fun _ _ _ h => h, ?bEu17⟩
            case aEu17 => (try dsimp only at hSw); go_simp; (try rfl)
            try simp only [Act.put, List.setIfInBounds_toArray, List.set_cons_zero, List.set_cons_succ]
            refine tky 18 (some 137) rfl rfl ⟨?vEu18, fun w hSw => ?aEu18, fun _ _ _ h => h, ?bEu18⟩
            case aEu18 => (try dsimp only at hSw); go_simp; (try rfl)
            try simp only [Act.put, List.setIfInBounds_toArray, List.set_cons_zero, List.set_cons_succ]
            refine tky 19 (some 138) rfl rfl ⟨?vEu19, fun w hSw => ?aEu19, fun _ _ _ h => h, ?bEu19⟩
            case aEu19 => (try dsimp only at hSw); go_simp; (try rfl)
            try simp only [Act.put, List.setIfInBounds_toArray, List.set_cons_zero, List.set_cons_succ]
            refine tky 20 (some 139) rfl rfl ⟨?vEu20, fun w hSw => ?aEu20, fun _ _ _ h => h, ?bEu20⟩
            case aEu20 => (try dsimp only at hSw); go_simp; (try rfl)
            try simp only [Act.put, List.setIfInBounds_toArray, List.set_cons_zero, List.set_cons_succ]
            refine tky 21 (some 140) rfl rfl ⟨?vEu21, fun w hSw => ?aEu21, fun _ _ _ h => h, ?bEu21⟩
            case aEu21 => (try dsimp only at hSw); go_simp; (try rfl)
            try simp only [Act.put, List.setIfInBounds_toArray, List.set_cons_zero, List.set_cons_succ]
            refine tky 22 (some 141) rfl rfl ⟨?vEu22, fun w hSw => ?aEu22, fun _ _ _ h => h, ?bEu22⟩
            case aEu22 => (try dsimp only at hSw); go_simp; (try rfl)
            try simp only [Act.put, List.setIfInBounds_toArray, List.set_cons_zero, List.set_cons_succ]
            refine tky 23 (some 142) rfl rfl ⟨.bool false, fun w hSw => ?aEu23, fun _ _ _ h => h, ?bEu23⟩
            case aEu23 => (try dsimp only at hSw); go_simp; (try rfl)
            try simp only [Act.put, List.setIfInBounds_toArray, List.set_cons_zero, List.set_cons_succ]
            refine tky 24 (some 143) rfl rfl ⟨?vEu24, fun w hSw => ?aEu24, fun _ _ _ h => h, ?bEu24⟩
            case aEu24 => (try dsimp only at hSw); go_simp; (try rfl)
            try simp only [Act.put, List.setIfInBounds_toArray, List.set_cons_zero, List.set_cons_succ]
            refine tky 25 (some 144) rfl rfl ⟨?vEu25, fun w hSw => ?aEu25, fun _ _ _ h => h, ?bEu25⟩
            case aEu25 => (try dsimp only at hSw); go_simp; (try rfl)
            try simp only [Act.put, List.setIfInBounds_toArray, List.set_cons_zero, List.set_cons_succ]
            refine tky 26 (some 145) rfl rfl ⟨?vEu26, fun w hSw => ?aEu26, fun _ _ _ h => h, ?bEu26⟩
            case aEu26 => (try dsimp only at hSw); go_simp; (try rfl)
            try simp only [Act.put, List.setIfInBounds_toArray, List.set_cons_zero, List.set_cons_succ]
            refine tky 27 (some 146) rfl rfl ⟨?vEu27, fun w hSw => ?aEu27, fun _ _ _ h => h, ?bEu27⟩
            case aEu27 => (try dsimp only at hSw); go_simp; (try rfl)
            try simp only [Act.put, List.setIfInBounds_toArray, List.set_cons_zero, List.set_cons_succ]
            refine tky 28 (some 147) rfl rfl ⟨.bool false, fun w hSw => ?aEu28, fun _ _ _ h => h, ?bEu28⟩
            case aEu28 => (try dsimp only at hSw); go_simp; (try rfl)
            try simp only [Act.put, List.setIfInBounds_toArray, List.set_cons_zero, List.set_cons_succ]
            refine tky 29 (some 148) rfl rfl ⟨?vEu29, fun w hSw => ?aEu29, fun _ _ _ h => h, ?bEu29⟩
            case aEu29 => (try dsimp only at hSw); go_simp; (try rfl)
            try simp only [Act.put, List.setIfInBounds_toArray, List.set_cons_zero, List.set_cons_succ]
            refine tky 30 (some 149) rfl rfl ⟨?vEu30, fun w hSw => ?aEu30, fun _ _ _ h => h, ?bEu30⟩
            case aEu30 => (try dsimp only at hSw); go_simp; (try rfl)
            try simp only [Act.put, List.setIfInBounds_toArray, List.set_cons_zero, List.set_cons_succ]
            refine tky 31 (some 150) rfl rfl ⟨?vEu31, fun w hSw => ?aEu31, fun _ _ _ h => h, ?bEu31⟩
            case aEu31 => (try dsimp only at hSw); go_simp; (try rfl)
            try simp only [Act.put, List.setIfInBounds_toArray, List.set_cons_zero, List.set_cons_succ]
            refine tky 32 (some 151) rfl rfl ⟨?vEu32, fun w hSw => ?aEu32, fun _ _ _ h => h, ?bEu32⟩
            case aEu32 => (try dsimp only at hSw); go_simp; (try rfl)
            try simp only [Act.put, List.setIfInBounds_toArray, List.set_cons_zero, List.set_cons_succ]
            refine tky 33 (some 152) rfl rfl ⟨?vEu33, fun w hSw => ?aEu33, fun _ _ _ h => h, ?bEu33⟩
            case aEu33 => (try dsimp only at hSw); go_simp; (try rfl)
            try simp only [Act.put, List.setIfInBounds_toArray, List.set_cons_zero, List.set_cons_succ]
            refine tky 34 (some 153) rfl rfl ⟨.int .i64 m, fun w hSw => ?aEu34, fun _ _ _ h => h, ?bEu34⟩
            case aEu34 => (try dsimp only at hSw); go_simp
            try simp only [Act.put, List.setIfInBounds_toArray, List.set_cons_zero, List.set_cons_succ]
            refine tky 35 (some 154) rfl rfl ⟨.slice (some ⟨g15, m * 4, none⟩) (nQ - m) (c15 - m), fun w hSw => ?aEu35, fun _ _ _ h => h, ?bEu35⟩
            case aEu35 => (try dsimp only at hSw); go_simp; intro hcm; omega
            try simp only [Act.put, List.setIfInBounds_toArray, List.set_cons_zero, List.set_cons_succ]
            refine tky 36 (some 155) rfl rfl ⟨?vEu36, fun w hSw => ?aEu36, fun _ _ _ h => h, ?bEu36⟩
            case aEu36 => (try dsimp only at hSw); go_simp; (try rfl)
            try simp only [Act.put, List.setIfInBounds_toArray, List.set_cons_zero, List.set_cons_succ]
            refine wpAnyH_ready (rs := [37]) (by kernel_rfl) (by simp) ?_
            refine AllReadyH.cons rfl (fun K hK => ?_) AllReadyH.nil
            go_simp
            go_at_call 16
            refine hsm.mono ?_
            rintro e w8 ⟨rfl, hb80⟩
            have hb8 := undrew hb80
            have k8 := HK5.out _ hb8
            refine hK.out _ _ k8 (fun hHeld => ?_)
            clear hK K
            try simp only [Act.put, List.setIfInBounds_toArray, List.set_cons_zero, List.set_cons_succ]
            refine tky 38 (some 157) rfl rfl ⟨?vEu38, fun w hSw => ?aEu38, fun _ _ _ h => h, ?bEu38⟩
            case aEu38 => (try dsimp only at hSw); go_simp; (try rfl)
            try simp only [Act.put, List.setIfInBounds_toArray, List.set_cons_zero, List.set_cons_succ]
            refine tky 39 (some 158) rfl rfl ⟨?vEu39, fun w hSw => ?aEu39, fun _ _ _ h => h, ?bEu39⟩
            case aEu39 => (try dsimp only at hSw); go_simp; (try rfl)
            try simp only [Act.put, List.setIfInBounds_toArray, List.set_cons_zero, List.set_cons_succ]
            refine tky 40 (some 159) rfl rfl ⟨?vEu40, fun w hSw => ?aEu40, fun _ _ _ h => h, ?bEu40⟩
            case aEu40 => (try dsimp only at hSw); go_simp; (try rfl)
            try simp only [Act.put, List.setIfInBounds_toArray, List.set_cons_zero, List.set_cons_succ]
            refine tky 41 (some 160) rfl rfl ⟨?vEu41, fun w hSw => ?aEu41, fun _ _ _ h => h, ?bEu41⟩
            case aEu41 => (try dsimp only at hSw); go_simp; (try rfl)
            try simp only [Act.put, List.setIfInBounds_toArray, List.set_cons_zero, List.set_cons_succ]
            refine tky 42 (some 161) rfl rfl ⟨?vEu42, fun w hSw => ?aEu42, fun _ _ _ h => h, ?bEu42⟩
            case aEu42 => (try dsimp only at hSw); go_simp; (try rfl)
            try simp only [Act.put, List.setIfInBounds_toArray, List.set_cons_zero, List.set_cons_succ]
            refine tky 43 (some 162) rfl rfl ⟨?vEu43, fun w hSw => ?aEu43, fun _ _ _ h => h, ?bEu43⟩
            case aEu43 => (try dsimp only at hSw); go_simp; (try rfl)
            try simp only [Act.put, List.setIfInBounds_toArray, List.set_cons_zero, List.set_cons_succ]
            refine tky 44 (some 163) rfl rfl ⟨.bool A, fun w hSw => ?aEu44, fun _ _ _ h => h, ?bEu44⟩
            case aEu44 => (try dsimp only at hSw); go_simp; (try rfl)
            try simp only [Act.put, List.setIfInBounds_toArray, List.set_cons_zero, List.set_cons_succ]
            refine tky 45 (some 164) rfl rfl ⟨?vEu45, fun w hSw => ?aEu45, fun _ _ _ h => h, ?bEu45⟩
            case aEu45 => (try dsimp only at hSw); go_simp; (try rfl)
            try simp only [Act.put, List.setIfInBounds_toArray, List.set_cons_zero, List.set_cons_succ]
            refine tky 46 (some 165) rfl rfl ⟨?vEu46, fun w hSw => ?aEu46, fun _ _ _ h => h, ?bEu46⟩
            case aEu46 => (try dsimp only at hSw); go_simp; (try rfl)
            try simp only [Act.put, List.setIfInBounds_toArray, List.set_cons_zero, List.set_cons_succ]
            refine tky 47 (some 166) rfl rfl ⟨?vEu47, fun w hSw => ?aEu47, fun _ _ _ h => h, ?bEu47⟩
            case aEu47 => (try dsimp only at hSw); go_simp; (try rfl)
            try simp only [Act.put, List.setIfInBounds_toArray, List.set_cons_zero, List.set_cons_succ]
            refine tky 48 (some 167) rfl rfl ⟨?vEu48, fun w hSw => ?aEu48, fun _ _ _ h => h, ?bEu48⟩
            case aEu48 => (try dsimp only at hSw); go_simp; (try rfl)
            try simp only [Act.put, List.setIfInBounds_toArray, List.set_cons_zero, List.set_cons_succ]
            refine tky 49 (some 168) rfl rfl ⟨?vEu49, fun w hSw => ?aEu49, fun _ _ _ h => h, ?bEu49⟩
            case aEu49 => (try dsimp only at hSw); go_simp; (try rfl)
            try simp only [Act.put, List.setIfInBounds_toArray, List.set_cons_zero, List.set_cons_succ]
            refine tky 50 (some 169) rfl rfl ⟨.bool A, fun w hSw => ?aEu50, fun _ _ _ h => h, ?bEu50⟩
            case aEu50 => (try dsimp only at hSw); go_simp; (try rfl)
            try simp only [Act.put, List.setIfInBounds_toArray, List.set_cons_zero, List.set_cons_succ]
            refine tky 51 (some 170) rfl rfl ⟨.bool false, fun w hSw => ?aEu51, fun _ _ _ h => h, ?bEu51⟩
            case aEu51 => (try dsimp only at hSw); go_simp; (try rfl)
            try simp only [Act.put, List.setIfInBounds_toArray, List.set_cons_zero, List.set_cons_succ]
            refine tky 52 (some 171) rfl rfl ⟨?vEu52, fun w hSw => ?aEu52, fun _ _ _ h => h, ?bEu52⟩
            case aEu52 => (try dsimp only at hSw); go_simp; (try rfl)
            try simp only [Act.put, List.setIfInBounds_toArray, List.set_cons_zero, List.set_cons_succ]
            refine wpAnyH_done (by kernel_rfl) ?_ _
            go_wp2
            exact hb8
        clear h1
        have HLq := HI.out.1.lq
        have HGr : Hid (∀ w2', Below w2.heap.size w2 w2' → Calls Try.prog 17 #[.pointer (some ⟨w.heap.size, 0, none⟩), .agg #[.int .i64 (firstK o.ks).d, .string (firstK o.ks).nm], .int .i64 o.ver] w2' fun x w' => ∃ v', x = .returned v' ∧ TB w w' w.heap.size W0.heap.size (.slice a11 nK c11) v' S (S.grant (firstK o.ks) o.ver).1 (S.grant (firstK o.ks) o.ver).2 o i) := fun w2' hb => by
          refine (lv_grant ((HL2.out.1.on hb).mono fun k hk => .inl hk) (firstK o.ks) o.ver).mono ?_
          rintro x w' ⟨v', rfl, Bq, hc⟩
          exact ⟨v', rfl, tb_of HR2.out hb ((hb.block _ (Array.getElem?_eq_some_iff.1 HL2.out.2.2.2).1).trans HL2.out.2.2.2) hc (grant_bnd _ _ (by have := HI.out.2.1; unfold MX; omega) HLq HI.out.1.q1) (grant_e _ _ _) (by have := grant_n S (firstK o.ks) o.ver; have := HI.out.2.1; push_cast; omega)⟩
        have HT : Hid (∀ w2' v2 base, Below w2.heap.size w2 w2' → RowK w2' base v2 o.ks → Calls Try.prog 19 #[.pointer (some ⟨w.heap.size, 0, none⟩), v2, .int .i64 o.ver] w2' fun x w' => ∃ v', x = .returned v' ∧ TB w w' w.heap.size W0.heap.size (.slice a11 nK c11) v' S (S.touch o.ks o.ver).1 (S.touch o.ks o.ver).2 o i) := fun w2' v2 base hb hr => by
          refine (lv_touch ((HL2.out.1.on hb).mono fun k hk => .inl hk) v2 o.ks o.ver hr.rd (by obtain ⟨_, _, _, hl, _⟩ := HA.out W0 HI.out.1.below; exact hl)).mono ?_
          rintro x w' ⟨v', rfl, Bq, hc⟩
          exact ⟨v', rfl, tb_of HR2.out hb ((hb.block _ (Array.getElem?_eq_some_iff.1 HL2.out.2.2.2).1).trans HL2.out.2.2.2) hc (touch_bnd _ _ (by have := HI.out.2.1; unfold MX; omega) HLq HI.out.1.q1) (touch_e _ _ _) (by have := touch_n S o.ks o.ver; have := HI.out.2.1; push_cast; omega)⟩
        have HTB : Hid (∀ w3 v3 S' L, TB w w3 w.heap.size W0.heap.size (.slice a11 nK c11) v3 S S' L o i → w3.cell? ⟨W0.heap.size, 1, none⟩ = some (.int .i64 o.ver) ∧ w3.cell? ⟨W0.heap.size, 4, none⟩ = some (.slice o.va o.vn o.vc)) := fun w3 v3 S' L h => by
          have q1 := cell_of h.box 1
          have q4 := cell_of h.box 4
          simp at q1 q4
          exact ⟨q1, q4⟩
        have HA2 : Hid (ArgK w2 (.slice o.va o.vn o.vc) o.ks) := HA.out w2 (chainB HI.out.1.below HB2.out)
        obtain rfl | rfl | rfl : pk = 0 ∨ pk = 1 ∨ pk = 2 := by omega
        · have HCp : Hid (Calls Try.prog 13 #[.slice o.va o.vn o.vc] w2.drew fun e w' => e = .returned (.agg #[.int .i64 (firstK o.ks).d, .string (firstK o.ks).nm]) ∧ Below w2.drew.heap.size w2.drew w') := first_p _ o.ks _ (HA2.out.below ((Below.refl _ _).drew))
          clear q0 q2 q3
          go_upto_region 13 with fail
          go_region_held3 (fun w' => w'.cell? ⟨W0.heap.size, 1, none⟩ = some (.int .i64 o.ver) ∧ w'.cell? ⟨W0.heap.size, 4, none⟩ = some (.slice o.va o.vn o.vc))
            (first | exact ⟨q1, q4⟩ | exact k3 | exact k2)
            (first
              | (go_at_call 13; refine HCp.out.mono ?_; rintro e w2' ⟨rfl, hb20⟩; have hb2 := undrew hb20; have k2 := keep2 ⟨q1, q4⟩ hb2; have htc := HGr.out w2' hb2)
              | (go_at_call 17; refine htc.mono ?_; rintro e w3 ⟨v3, rfl, hM3⟩; have k3 := HTB.out _ _ _ _ hM3; obtain ⟨av3, cv3, hv3⟩ := hM3.rt.form; subst hv3))
          all_goals
            go_wp2
            exact key _ _ _ _ hM3 ..
        · have HCp : Hid (Calls Try.prog 20 #[.slice o.va o.vn o.vc] w2.drew fun e w' => ∃ v', e = .returned v' ∧ RowK w' w2.drew.heap.size v' o.ks ∧ Below w2.drew.heap.size w2.drew w') := copyK_any _ o.ks _ (HA2.out.below ((Below.refl _ _).drew))
          clear q0 q2 q3
          go_upto_region 15 with fail
          go_region_held3 (fun w' => w'.cell? ⟨W0.heap.size, 1, none⟩ = some (.int .i64 o.ver) ∧ w'.cell? ⟨W0.heap.size, 4, none⟩ = some (.slice o.va o.vn o.vc))
            (first | exact ⟨q1, q4⟩ | exact k3 | exact k2)
            (first
              | (go_at_call 20; refine HCp.out.mono ?_; rintro e w2' ⟨v2, rfl, hr2, hb20⟩; have hb2 := undrew hb20; obtain ⟨av2, cv2, hv2⟩ := owns_len hr2; subst hv2; have k2 := keep2 ⟨q1, q4⟩ hb2; have htc := HT.out w2' _ _ hb2 hr2)
              | (go_at_call 19; refine htc.mono ?_; rintro e w3 ⟨v3, rfl, hM3⟩; have k3 := HTB.out _ _ _ _ hM3; obtain ⟨av3, cv3, hv3⟩ := hM3.rt.form; subst hv3))
          all_goals
            go_wp2
            exact key _ _ _ _ hM3 ..
        · obtain ⟨fa, hfa⟩ : ∃ x, floatOfInt .f64 o.ep = x := ⟨_, rfl⟩
          obtain ⟨fb, hfb⟩ : ∃ x, floatOfInt .f64 o.num = x := ⟨_, rfl⟩
          have hmka := fun W => mark_any o.ep o.num W
          rw [hfa, hfb] at hmka
          obtain ⟨na, nb, -, hack0⟩ := lv_ack HL2.out.1 fa fb
          have hack : Calls Try.prog 23 #[.pointer (some ⟨w.heap.size, 0, none⟩), .complex .f64 fa fb] w2 fun x w' => ∃ bb S', x = .returned (.bool bb) ∧ TB w w' w.heap.size W0.heap.size (.slice a11 nK c11) (.slice none 0 0) S S' [] o i := by
            refine hack0.mono ?_
            rintro x w' ⟨rfl, hLv, hkp, hsz⟩
            refine ⟨_, _, rfl, hLv.mono fun _ h => h.elim, HR2.out.moved fun k hk => hkp k (.inl hk), ⟨[], ⟨⟨none, 0, rfl, .inl ⟨rfl, rfl⟩⟩, fun b hb => by cases hb⟩, rfl, fun b hb => by cases hb⟩, (hkp _ (.inr rfl)).trans HL2.out.2.2.2, ?_, ?_, ?_⟩
            · split
              · exact ack_bnd _ _ HLq
              · exact ⟨.inl ⟨rfl, rfl⟩, fun _ h => .inl h, HLq⟩
            · split <;> exact ⟨rfl, rfl, rfl⟩
            · have := HI.out.2.1
              split
              · show S.n ≤ _; push_cast; omega
              · push_cast; omega
          clear hack0 hfa hfb HGr HT q0 q1 q4
          go_wp2_with (first
            | (go_at_call 22; refine (hmka _).mono ?_; rintro e w' ⟨rfl, hw'⟩; rw [hw'])
            | (go_at_call 23; refine hack.mono ?_; rintro e w3 ⟨bb, S', rfl, hM3⟩))
          all_goals exact key _ _ _ _ hM3 ..
      · obtain rfl : i = n := by omega
        have hltz : ¬ (i : Int) < (i : Int) := by omega
        go_wp2_with (go_at_call 11; refine (awake_p _).mono ?_; rintro e wf ⟨rfl, hbf⟩)
        go_ret
        exact ⟨rfl, chainB HI.out.1.below hbf⟩
  · have hbad : withinB 1 = false ∨ p < 1 ∨ 32 < p ∨ q < 1 ∨ 16 < q := by omega
    have hnew := new_no 1 p q w hbad
    clear hbad
    by_cases h1 : p < 1
    · go_enter Try.func5, Try.ntmps5
      go_wp2_with (first
        | (go_at_call 9; refine hnew.mono ?_; rintro e w1 ⟨rfl, rfl⟩)
        | (go_at_call 11; refine (awake_p _).mono ?_; rintro e wf ⟨rfl, hbf⟩))
      go_ret
      exact ⟨rfl, hbf⟩
    by_cases h2 : 32 < p
    · go_enter Try.func5, Try.ntmps5
      go_wp2_with (first
        | (go_at_call 9; refine hnew.mono ?_; rintro e w1 ⟨rfl, rfl⟩)
        | (go_at_call 11; refine (awake_p _).mono ?_; rintro e wf ⟨rfl, hbf⟩))
      go_ret
      exact ⟨rfl, hbf⟩
    by_cases h3 : q < 1
    · go_enter Try.func5, Try.ntmps5
      go_wp2_with (first
        | (go_at_call 9; refine hnew.mono ?_; rintro e w1 ⟨rfl, rfl⟩)
        | (go_at_call 11; refine (awake_p _).mono ?_; rintro e wf ⟨rfl, hbf⟩))
      go_ret
      exact ⟨rfl, hbf⟩
    have h4 : 16 < q := by omega
    clear hok
    go_enter Try.func5, Try.ntmps5
    go_wp2_with (first
      | (go_at_call 9; refine hnew.mono ?_; rintro e w1 ⟨rfl, rfl⟩)
      | (go_at_call 11; refine (awake_p _).mono ?_; rintro e wf ⟨rfl, hbf⟩))
    go_ret
    exact ⟨rfl, hbf⟩
end Go.Proofs.Ytaofhjckliobpaa
