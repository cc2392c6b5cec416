/- VowTold. -/
import Derived.Test.YtaofhjckliobpaaVpI
import Derived.Test.YtaofhjckliobpaaTkA
namespace Go.Proofs.Ytaofhjckliobpaa
open Go.RowKit Go.Shelf Go.Sort
theorem fldK0 (w : World) (a : Int) (b : ByteArray) : (Instr.field 36 (.agg #[.int .i64 a, .string b]) 0).run Try.prog w = .ok (.int .i64 a) w := by
  unfold Instr.field
  simp [go_sem]
  rfl
theorem fldK1 (w : World) (a : Int) (b : ByteArray) : (Instr.field 36 (.agg #[.int .i64 a, .string b]) 1).run Try.prog w = .ok (.string b) w := by
  unfold Instr.field
  simp [go_sem]
  rfl
attribute [local go_sem high] eqK neqK guardK fldK0 fldK1

/-- between two calls of the script -/
structure TI (w wr : World) (t : Nat) (v : Value) (S : Vs) (K : List Ky) (i : Nat) : Prop where
  lv : Lv w wr t S (fun k => v.ownBlock = some k)
  row : RowK wr w.heap.size v K
  n : S.n ≤ i
  len : K.length ≤ 2 * i
  cov : Cov S K
theorem TI.on {w wr w' : World} {t : Nat} {v : Value} {S : Vs} {K : List Ky} {i : Nat} (h : TI w wr t v S K i) (hb : Below wr.heap.size wr w') : TI w w' t v S K i := ⟨(h.lv.on hb).mono fun _ hk => .inl hk, h.row.below hb, h.n, h.len, h.cov⟩
/-- behind a call of the script -/
structure TM (w w3 : World) (t bx : Nat) (v9 v12 : Value) (S : Vs) (L : List Bs) (K : List Ky) (e : Int) (o : Ov) (i : Nat) : Prop where
  lv : Lv w w3 t S (fun _ => False)
  row : RowK w3 w.heap.size v9 K
  rt : Rd w3 v12 L e
  box : w3.heap[bx]? = some (.cells #[.int .i64 o.kind, .int .i64 o.ver, .int .i64 o.ep, .int .i64 o.num, .slice o.va o.vn o.vc] 33 (0, 0))
  arg : ArgK w3 (.slice o.va o.vn o.vc) o.ks
  cov : Cov S (leftL L K)
  n : S.n ≤ (i + 1 : Nat)
  len : K.length ≤ 2 * i
  one : L.length ≤ 1
theorem TM.ti {w w3 w' : World} {t bx : Nat} {v9 v12 v : Value} {S : Vs} {L : List Bs} {K K' : List Ky} {e : Int} {o : Ov} {i : Nat} (h : TM w w3 t bx v9 v12 S L K e o i) (hb : Below w3.heap.size w3 w') (hr : RowK w' w3.heap.size v K') (hl : K'.length ≤ 2 * (i + 1)) (hc : Cov S K') : TI w w' t v S K' (i + 1) :=
  ⟨(h.lv.on hb).mono fun _ hk => .inr (hr.lt hk), owns_le hr h.lv.below.size, h.n, hl, hc⟩
theorem tm_of {w W0 w2 w3 : World} {t bx Bq : Nat} {v9 v12 : Value} {S : Vs} {r : Vs × List Bs} {K : List Ky} {o : Ov} {i : Nat} (h : TI w W0 t v9 S K i) (hb : Below W0.heap.size W0 w2) (hx : w2.heap[bx]? = some (.cells #[.int .i64 o.kind, .int .i64 o.ver, .int .i64 o.ep, .int .i64 o.num, .slice o.va o.vn o.vc] 33 (0, 0))) (hc : Lc w w2 w3 t (fun k => v9.ownBlock = some k ∨ k = bx) v12 r S.e Bq) (ha : ArgK w3 (.slice o.va o.vn o.vc) o.ks) (hv : Cov r.1 (leftL r.2 K)) (hn : r.1.n ≤ (i + 1 : Nat)) (ho : r.2.length ≤ 1) : TM w w3 t bx v9 v12 r.1 r.2 K S.e o i :=
  ⟨hc.lv.mono fun _ h => h.elim, (h.row.below hb).moved fun k hk => hc.kept k (.inl hk), hc.rt.rd, (hc.kept bx (.inr rfl)).trans hx, ha, hv, hn, h.len, ho⟩
theorem keep2 {W W' : World} {x y : Addr} {u1 u2 : Value} (h : W.cell? x = some u1 ∧ W.cell? y = some u2) (hb : Below W.heap.size W W') : W'.cell? x = some u1 ∧ W'.cell? y = some u2 := ⟨(hb.cell (cellLt h.1)).trans h.1, (hb.cell (cellLt h.2)).trans h.2⟩
theorem grant_one (S : Vs) (k : Ky) (ver : Int) : (S.grant k ver).2.length ≤ 1 := by
  rcases grant_cases S k ver with ⟨e, _⟩ | ⟨o, l, _, _, e⟩
  · rw [e]; exact Nat.zero_le _
  · rw [e]; exact tell_one _ _ _
theorem touch_one (S : Vs) (ks : List Ky) (ver : Int) : (S.touch ks ver).2.length ≤ 1 := by
  rcases touch_cases S ks ver with ⟨e, _⟩ | ⟨_, e⟩
  · rw [e]; exact Nat.zero_le _
  · rw [e]; exact tell_one _ _ _
theorem keep4 {W W' : World} {x y z s : Addr} {u1 u2 u3 u4 : Value} (h : W.cell? x = some u1 ∧ W.cell? y = some u2 ∧ W.cell? z = some u3 ∧ W.cell? s = some u4) (hb : Below W.heap.size W W') : W'.cell? x = some u1 ∧ W'.cell? y = some u2 ∧ W'.cell? z = some u3 ∧ W'.cell? s = some u4 :=
  ⟨(hb.cell (cellLt h.1)).trans h.1, (hb.cell (cellLt h.2.1)).trans h.2.1, (hb.cell (cellLt h.2.2.1)).trans h.2.2.1, (hb.cell (cellLt h.2.2.2)).trans h.2.2.2⟩
theorem Rd.at {w : World} {n cap j : Nat} {a : Option Addr} {L : List Bs} {e : Int} {b : Bs} (h : Rd w (.slice a n cap) L e) (hj : L[j]? = some b) : ∃ (g off : Nat) (va : Option Addr) (vn vc : Nat), a = some ⟨g, off, none⟩ ∧ w.cell? ⟨g, off + j * 4 + 2, none⟩ = some (.bool b.all) ∧ w.cell? ⟨g, off + j * 4 + 3, none⟩ = some (.slice va vn vc) ∧ ArgK w (.slice va vn vc) b.ks := by
  obtain ⟨bs, h1, rfl, -⟩ := h
  rw [List.getElem?_map] at hj
  cases hx : bs[j]? with
  | none => rw [hx] at hj; cases hj
  | some x =>
    rw [hx] at hj
    cases hj
    obtain ⟨g, off, rfl, -, -, -, l2, l3⟩ := h1.brk hx
    have hk := h1.2 x (List.mem_of_getElem? hx)
    exact ⟨g, off, x.va, x.vn, x.vc, rfl, l2, l3, hk.1.arg hk.2⟩
theorem goneL_step {L : List Bs} {j : Nat} {b : Bs} {x : Ky} (h : L[j]? = some b) : goneL (L.take (j + 1)) x = (goneL (L.take j) x || goneB b x) := by
  rw [List.take_add_one, h]; exact goneL_snoc _ _ _
theorem leftL_step {L : List Bs} {K : List Ky} {k : Nat} {x : Ky} (h : K[k]? = some x) : leftL L (K.take (k + 1)) = leftL L (K.take k) ++ (if goneL L x then [] else [x]) := by
  rw [List.take_add_one, h]; exact leftL_snoc _ _ _
set_option maxHeartbeats 8000000 in
set_option maxRecDepth 20000 in
theorem walk_VowTold (p q : Int) (a : Option Addr) (cap : Nat) (ops : List Ov) (w : World) (_ : (Lit.int .i64 p).wf = true) (_ : (Lit.int .i64 q).wf = true) (h : RowG w a ops) (hl : ops.length ≤ 1048576) :
    Calls Try.prog 6 #[.int .i64 p, .int .i64 q, .slice a ops.length cap] w fun e w' => e = .returned (.bool true) ∧ Below w.heap.size w w' := by
  obtain ⟨i1, hi1, hw0, hw1, hw2⟩ := info_parts Try.infoKy
  obtain ⟨n, hn⟩ : ∃ n, ops.length = n := ⟨_, rfl⟩
  rw [hn] at hl ⊢
  have H : Hid (RowG w a ops ∧ ops.length = n) := ⟨h, hn⟩
  clear h hn
  by_cases hok : 1 ≤ p ∧ p ≤ 32 ∧ 1 ≤ q ∧ q ≤ 16
  · obtain ⟨P, rfl⟩ : ∃ P : Nat, p = P := ⟨p.toNat, by omega⟩
    obtain ⟨Q, rfl⟩ : ∃ Q : Nat, q = Q := ⟨q.toNat, by omega⟩
    have hnew := lv_new w w (Below.refl _ _) 1 P Q (by omega) (by omega) (by omega) (by omega) (by omega) (by omega)
    change Calls Try.prog 9 #[.int .i64 1, .int .i64 P, .int .i64 Q] w _ at hnew
    go_enter Try.func6, Try.ntmps6
    go_upto_region 4 with (go_at_call 9; refine hnew.mono ?_; rintro e w1 ⟨rfl, hL1, -⟩)
    have HL1 : Hid (Lv w w1 w.heap.size (Vs.new 1 P Q) (fun _ => False)) := hL1.mono fun _ h => h.elim
    clear hnew hL1
    go_wp2
    go_loopw [9, 10, 11, 12, 13, 14, 15, 16, 17] (fun s9 s10 _ _ _ _ _ _ _ wr => ∃ (i : Nat) (S : Vs) (K : List Ky), s10 = .int .i64 i ∧ i ≤ n ∧ Hid (TI w wr w.heap.size s9 S K i)) (fun _ s10 _ _ _ _ _ _ _ _ => n - (intOf s10).toNat)
    case atStart => exact ⟨0, _, [], rfl, Nat.zero_le _, HL1.out.mono (fun _ h => by cases h), World.ownsRow_nil _ _ _ _, Int.le_refl _, Nat.le_refl _, fun _ h => by cases h⟩
    case round =>
      rename World => W0
      obtain ⟨i, S, K, rfl, hi, HI⟩ := hrel
      by_cases hlt : i < n
      · obtain ⟨o, ho⟩ : ∃ o, ops[i]? = some o := ⟨_, List.getElem?_eq_getElem (by rw [H.out.2]; exact hlt)⟩
        obtain ⟨b, off, hga, -, c0, c1, c2, c3, c4, hak⟩ := (H.out.1.below HI.out.lv.below).op ho
        subst hga
        have hltz : (i : Int) < (n : Int) := by omega
        obtain ⟨nK, hnK⟩ : ∃ n, K.length = n := ⟨_, rfl⟩
        have hnK2 : nK ≤ 2097152 := by have := HI.out.len; omega
        obtain ⟨a9, c9, h9⟩ := owns_len HI.out.row
        rw [hnK] at h9
        subst h9
        have HA : Hid (ArgK W0 (.slice o.va o.vn o.vc) o.ks ∧ (∀ w3, Below w.heap.size w w3 → ArgK w3 (.slice o.va o.vn o.vc) o.ks) ∧ K.length = nK) := ⟨hak, fun w3 hb => by
          obtain ⟨_, _, _, _, _, _, _, _, _, hk⟩ := (H.out.1.below hb).op ho
          exact hk, hnK⟩
        have hp1 := fun W => place_any o.kind 3 W (by omega) (by omega)
        have hk := pl_lt o.kind 3 (by omega)
        obtain ⟨pk, hpk⟩ : ∃ k, pl o.kind 3 = k := ⟨_, rfl⟩
        rw [hpk] at hp1 hk
        change ∀ W, Calls Try.prog 12 #[.int .i64 o.kind, .int .i64 3] W _ at hp1
        clear hpk ho hak hnK
        go_upto_region 10 with fail
        rename_i K1 h1 K0 h0
        have key : ∀ (v12 : Value) (w3 : World) (S' : Vs) (L : List Bs), TM w w3 w.heap.size W0.heap.size (.slice a9 nK c9) v12 S' L K S.e o i → ∀ (x6 x13 x14 x15 x16 x17 x47 x48 x49 x50 x51 x52 x53 x54 x55 x56 x57 x58 x59 x60 x61 x62 x63 x64 x65 x66 x67 x68 x69 x70 x71 x72 x73 x74 x75 x76 x77 x78 x79 x80 x81 x82 x83 x84 x85 x86 x87 x88 x89 x90 x91 x92 x93 x94 x95 x96 x97 x98 x99 x100 x101 x102 x103 x104 x105 x106 x107 x108 x109 x110 x111 x112 x113 x114 x115 x116 x117 x118 x119 x120 x121 x122 x123 x124 x125 x126 x127 x128 x129 x130 x131 x132 x133 x134 x135 x136 x137 x138 x139 x140 x141 x142 x143 x144 x145 x146 x147 x148 x149 x150 x151 x152 x153 x154 x155 x156 x157 x158 x159 x160 x161 x162 x163 x164 x165 x166 x167 x168 x169 x170 x171 x172 x173 x174 x175 x176 x177 x178 x179 x180 x181 x182 x183 x184 : Value), K1 ⟨#[.int .i64 P, .int .i64 Q, .slice (some ⟨b, off, none⟩) n cap, undef, undef, undef, x6, .pointer (some ⟨w.heap.size, 0, none⟩), .int .i64 0, .slice a9 nK c9, .int .i64 i, .pointer (some ⟨W0.heap.size, 0, none⟩), v12, x13, x14, x15, x16, x17, .tuple #[.pointer (some ⟨w.heap.size, 0, none⟩), .int .i64 0], .int .i64 P, .int .i64 Q, .tuple #[.pointer (some ⟨w.heap.size, 0, none⟩), .int .i64 0], .pointer (some ⟨w.heap.size, 0, none⟩), .int .i64 0, .int .i64 0, .bool false, .bool false, .pointer (some ⟨w.heap.size, 0, none⟩), .bool false, .bool false, undef, undef, undef, undef, undef, undef, undef, undef, undef, undef, undef, undef, undef, undef, undef, undef, undef, x47, x48, x49, x50, x51, x52, x53, x54, x55, x56, x57, x58, x59, x60, x61, x62, x63, x64, x65, x66, x67, x68, x69, x70, x71, x72, x73, x74, x75, x76, x77, x78, x79, x80, x81, x82, x83, x84, x85, x86, x87, x88, x89, x90, x91, x92, x93, x94, x95, x96, x97, x98, x99, x100, x101, x102, x103, x104, x105, x106, x107, x108, x109, x110, x111, x112, x113, x114, x115, x116, x117, x118, x119, x120, x121, x122, x123, x124, x125, x126, x127, x128, x129, x130, x131, x132, x133, x134, x135, x136, x137, x138, x139, x140, x141, x142, x143, x144, x145, x146, x147, x148, x149, x150, x151, x152, x153, x154, x155, x156, x157, x158, x159, x160, x161, x162, x163, x164, x165, x166, x167, x168, x169, x170, x171, x172, x173, x174, x175, x176, x177, x178, x179, x180, x181, x182, x183, x184, undef], []⟩ w3 := by
          intro v12 w3 S' L hM x6 x13 x14 x15 x16 x17 x47 x48 x49 x50 x51 x52 x53 x54 x55 x56 x57 x58 x59 x60 x61 x62 x63 x64 x65 x66 x67 x68 x69 x70 x71 x72 x73 x74 x75 x76 x77 x78 x79 x80 x81 x82 x83 x84 x85 x86 x87 x88 x89 x90 x91 x92 x93 x94 x95 x96 x97 x98 x99 x100 x101 x102 x103 x104 x105 x106 x107 x108 x109 x110 x111 x112 x113 x114 x115 x116 x117 x118 x119 x120 x121 x122 x123 x124 x125 x126 x127 x128 x129 x130 x131 x132 x133 x134 x135 x136 x137 x138 x139 x140 x141 x142 x143 x144 x145 x146 x147 x148 x149 x150 x151 x152 x153 x154 x155 x156 x157 x158 x159 x160 x161 x162 x163 x164 x165 x166 x167 x168 x169 x170 x171 x172 x173 x174 x175 x176 x177 x178 x179 x180 x181 x182 x183 x184
          obtain ⟨a12, c12, h12⟩ := hM.rt.form
          obtain ⟨nL, hnL⟩ : ∃ n, L.length = n := ⟨_, rfl⟩
          rw [hnL] at h12
          subst h12
          have hnL1 : nL ≤ 1 := by rw [← hnL]; exact hM.one
          have HM : Hid (TM w w3 w.heap.size W0.heap.size (.slice a9 nK c9) (.slice a12 nL c12) S' L K S.e o i ∧ L.length = nL) := ⟨hM, hnL⟩
          clear hM hnL c0 c1 c2 c3 c4
          apply h1
          clear h1 h0 K0
          go_wp2
          go_loopw [13, 14, 15, 16] (fun s13 s14 _ _ wr2 => ∃ (k : Nat), s14 = .int .i64 k ∧ k ≤ nK ∧ Hid (Below w3.heap.size w3 wr2 ∧ RowK wr2 w3.heap.size s13 (leftL L (K.take k)))) (fun _ s14 _ _ _ => nK - (intOf s14).toNat)
          case atStart => exact ⟨0, rfl, Nat.zero_le _, Below.refl _ _, World.ownsRow_nil _ _ _ _⟩
          case round =>
            rename World => W2
            obtain ⟨k, rfl, hkn, HR⟩ := hrel
            obtain ⟨a13, c13, h13⟩ := owns_len HR.out.2
            obtain ⟨n13, hn13⟩ : ∃ n, (leftL L (K.take k)).length = n := ⟨_, rfl⟩
            rw [hn13] at h13
            subst h13
            have hn13k : n13 ≤ k := by rw [← hn13]; refine Nat.le_trans (leftL_le _ _) ?_; rw [List.length_take]; omega
            have HN : Hid ((leftL L (K.take k)).length = n13) := hn13
            clear hn13
            by_cases hlk : k < nK
            · obtain ⟨x, hx⟩ : ∃ x, K[k]? = some x := ⟨_, List.getElem?_eq_getElem (by rw [HA.out.2.2]; exact hlk)⟩
              have hlkz : (k : Int) < (nK : Int) := by omega
              obtain ⟨g9, hg9, -, -, y0, y1, -⟩ := (HM.out.1.row.below HR.out.1).key hx
              subst hg9
              have HX : Hid (K[k]? = some x) := hx
              clear hx
              go_wp2
              go_loopw [15, 16] (fun s15 s16 wr3 => ∃ (j : Nat) (c : Bool), s15 = .bool c ∧ s16 = .int .i64 j ∧ j ≤ nL ∧ Hid (c = goneL (L.take j) x ∧ Below W2.heap.size W2 wr3)) (fun _ s16 _ => nL - (intOf s16).toNat)
              case atStart => exact ⟨0, false, rfl, rfl, Nat.zero_le _, rfl, Below.refl _ _⟩
              case round =>
                rename World => W3
                obtain ⟨j, c, rfl, rfl, hjn, HC⟩ := hrel
                have z0 := (HC.out.2.cell (cellLt y0)).trans y0
                have z1 := (HC.out.2.cell (cellLt y1)).trans y1
                by_cases hlj : j < nL
                · have hljz : (j : Int) < (nL : Int) := by omega
                  obtain ⟨bk, hbk⟩ : ∃ b, L[j]? = some b := ⟨_, List.getElem?_eq_getElem (by rw [HM.out.2]; exact hlj)⟩
                  obtain ⟨gb, ob, va, vn, vc, ha12, l2, l3, hak⟩ := (HM.out.1.rt.below (chainB HR.out.1 HC.out.2)).at hbk
                  subst ha12
                  have HIn : Hid (∀ W', Below W3.heap.size W3 W' → ∀ (d : Int) (nm : ByteArray), Calls Try.prog 32 #[.slice va vn vc, .agg #[.int .i64 d, .string nm]] W' fun e w' => e = .returned (.bool (inK bk.ks ⟨d, nm⟩)) ∧ Below W'.heap.size W' w') := fun W' hb d nm => in_any _ ⟨d, nm⟩ bk.ks W' (hak.below hb)
                  have hgs := goneL_step (x := x) hbk
                  rw [← HC.out.1] at hgs
                  have HG : Hid (goneL (L.take (j + 1)) x = (c || (bk.all || inK bk.ks x || inK bk.ks (bare x)))) := hgs
                  have HB3 : Hid (Below W2.heap.size W2 W3) := HC.out.2
                  clear hgs hbk hak y0 y1 HC
                  cases c with
                  | true =>
                    have HT : Hid (true = goneL (L.take (j + 1)) x) := by rw [HG.out]; rfl
                    clear HG
                    go_upto_region 21 with fail
                    go_quiet (fail)
                    go_wp2
                    exact ⟨⟨j + 1, true, rfl, by simp, by omega, HT.out, below_drewN HB3.out _⟩, by simp [intOf]; omega⟩
                  | false =>
                    cases hall : bk.all with
                    | true =>
                      rw [hall] at l2
                      have HT : Hid (true = goneL (L.take (j + 1)) x) := by rw [HG.out, hall]; rfl
                      clear HG hall
                      go_upto_region 21 with fail
                      go_quiet (fail)
                      go_wp2
                      exact ⟨⟨j + 1, true, rfl, by simp, by omega, HT.out, below_drewN HB3.out _⟩, by simp [intOf]; omega⟩
                    | false =>
                      rw [hall] at l2
                      have hA := HIn.out W3.drew ((Below.refl _ _).drew) x.d x.nm
                      cases hq : inK bk.ks x with
                      | true =>
                        rw [show inK bk.ks ⟨x.d, x.nm⟩ = true from hq] at hA
                        have HT : Hid (true = goneL (L.take (j + 1)) x) := by rw [HG.out, hall, hq]; rfl
                        clear HG hall hq
                        go_upto_region 21 with fail
                        refine wp_region_held_drew (S := fun w' => w'.cell? ⟨g9, k * 2, none⟩ = some (.int .i64 x.d) ∧ w'.cell? ⟨g9, k * 2 + 1, none⟩ = some (.string x.nm) ∧ w'.cell? ⟨gb, ob + j * 4 + 2, none⟩ = some (.bool false) ∧ w'.cell? ⟨gb, ob + j * 4 + 3, none⟩ = some (.slice va vn vc)) (by kernel_rfl) ⟨z0, z1, l2, l3⟩ (fun hHeld => ?_)
                        refine tky 0 (some 87) rfl rfl ⟨?vtC0, fun w hSw => ?atC0, fun _ _ _ h => h, ?btC0⟩
                        case atC0 => (try dsimp only at hSw); go_simp; (try rfl)
                        try simp only [Act.put, List.setIfInBounds_toArray, List.set_cons_zero, List.set_cons_succ]
                        refine tky 1 (some 88) rfl rfl ⟨?vtC1, fun w hSw => ?atC1, fun _ _ _ h => h, ?btC1⟩
                        case atC1 => (try dsimp only at hSw); go_simp; (try rfl)
                        try simp only [Act.put, List.setIfInBounds_toArray, List.set_cons_zero, List.set_cons_succ]
                        refine tky 2 (some 89) rfl rfl ⟨?vtC2, fun w hSw => ?atC2, fun _ _ _ h => h, ?btC2⟩
                        case atC2 => (try dsimp only at hSw); go_simp; (try rfl)
                        try simp only [Act.put, List.setIfInBounds_toArray, List.set_cons_zero, List.set_cons_succ]
                        refine tky 3 (some 90) rfl rfl ⟨?vtC3, fun w hSw => ?atC3, fun _ _ _ h => h, ?btC3⟩
                        case atC3 => (try dsimp only at hSw); go_simp; (try rfl)
                        try simp only [Act.put, List.setIfInBounds_toArray, List.set_cons_zero, List.set_cons_succ]
                        refine tky 4 (some 91) rfl rfl ⟨?vtC4, fun w hSw => ?atC4, fun _ _ _ h => h, ?btC4⟩
                        case atC4 => (try dsimp only at hSw); go_simp; (try rfl)
                        try simp only [Act.put, List.setIfInBounds_toArray, List.set_cons_zero, List.set_cons_succ]
                        refine tky 5 (some 92) rfl rfl ⟨?vtC5, fun w hSw => ?atC5, fun _ _ _ h => h, ?btC5⟩
                        case atC5 => (try dsimp only at hSw); go_simp; (try rfl)
                        try simp only [Act.put, List.setIfInBounds_toArray, List.set_cons_zero, List.set_cons_succ]
                        refine tky 6 (some 93) rfl rfl ⟨.bool false, fun w hSw => ?atC6, fun _ _ _ h => h, ?btC6⟩
                        case atC6 => (try dsimp only at hSw); go_simp; (try rfl)
                        try simp only [Act.put, List.setIfInBounds_toArray, List.set_cons_zero, List.set_cons_succ]
                        refine tky 7 (some 94) rfl rfl ⟨?vtC7, fun w hSw => ?atC7, fun _ _ _ h => h, ?btC7⟩
                        case atC7 => (try dsimp only at hSw); go_simp; (try rfl)
                        try simp only [Act.put, List.setIfInBounds_toArray, List.set_cons_zero, List.set_cons_succ]
                        refine tky 8 (some 95) rfl rfl ⟨?vtC8, fun w hSw => ?atC8, fun _ _ _ h => h, ?btC8⟩
                        case atC8 => (try dsimp only at hSw); go_simp; (try rfl)
                        try simp only [Act.put, List.setIfInBounds_toArray, List.set_cons_zero, List.set_cons_succ]
                        refine tky 9 (some 96) rfl rfl ⟨?vtC9, fun w hSw => ?atC9, fun _ _ _ h => h, ?btC9⟩
                        case atC9 => (try dsimp only at hSw); go_simp; (try rfl)
                        try simp only [Act.put, List.setIfInBounds_toArray, List.set_cons_zero, List.set_cons_succ]
                        refine tky 10 (some 97) rfl rfl ⟨?vtC10, fun w hSw => ?atC10, fun _ _ _ h => h, ?btC10⟩
                        case atC10 => (try dsimp only at hSw); go_simp; (try rfl)
                        try simp only [Act.put, List.setIfInBounds_toArray, List.set_cons_zero, List.set_cons_succ]
                        refine tky 11 (some 98) rfl rfl ⟨?vtC11, fun w hSw => ?atC11, fun _ _ _ h => h, ?btC11⟩
                        case atC11 => (try dsimp only at hSw); go_simp; (try rfl)
                        try simp only [Act.put, List.setIfInBounds_toArray, List.set_cons_zero, List.set_cons_succ]
                        refine tky 12 (some 99) rfl rfl ⟨?vtC12, fun w hSw => ?atC12, fun _ _ _ h => h, ?btC12⟩
                        case atC12 => (try dsimp only at hSw); go_simp; (try rfl)
                        try simp only [Act.put, List.setIfInBounds_toArray, List.set_cons_zero, List.set_cons_succ]
                        refine tky 13 (some 100) rfl rfl ⟨?vtC13, fun w hSw => ?atC13, fun _ _ _ h => h, ?btC13⟩
                        case atC13 => (try dsimp only at hSw); go_simp; (try rfl)
                        try simp only [Act.put, List.setIfInBounds_toArray, List.set_cons_zero, List.set_cons_succ]
                        refine tky 14 (some 101) rfl rfl ⟨?vtC14, fun w hSw => ?atC14, fun _ _ _ h => h, ?btC14⟩
                        case atC14 => (try dsimp only at hSw); go_simp; (try rfl)
                        try simp only [Act.put, List.setIfInBounds_toArray, List.set_cons_zero, List.set_cons_succ]
                        refine tky 15 (some 102) rfl rfl ⟨?vtC15, fun w hSw => ?atC15, fun _ _ _ h => h, ?btC15⟩
                        case atC15 => (try dsimp only at hSw); go_simp; (try rfl)
                        try simp only [Act.put, List.setIfInBounds_toArray, List.set_cons_zero, List.set_cons_succ]
                        refine tky 16 (some 103) rfl rfl ⟨?vtC16, fun w hSw => ?atC16, fun _ _ _ h => h, ?btC16⟩
                        case atC16 => (try dsimp only at hSw); go_simp; (try rfl)
                        try simp only [Act.put, List.setIfInBounds_toArray, List.set_cons_zero, List.set_cons_succ]
                        refine tky 17 (some 104) rfl rfl ⟨?vtC17, fun w hSw => ?atC17, fun _ _ _ h => h, ?btC17⟩
                        case atC17 => (try dsimp only at hSw); go_simp; (try rfl)
                        try simp only [Act.put, List.setIfInBounds_toArray, List.set_cons_zero, List.set_cons_succ]
                        refine wpAnyH_ready (rs := [18]) (by kernel_rfl) (by simp) ?_
                        refine AllReadyH.cons rfl (fun K hK => ?_) AllReadyH.nil
                        go_simp
                        go_at_call 32
                        refine hA.mono ?_
                        rintro e w6 ⟨rfl, hb60⟩
                        have hb6 := undrew hb60
                        have k6 : w6.cell? ⟨g9, k * 2, none⟩ = some (.int .i64 x.d) ∧ w6.cell? ⟨g9, k * 2 + 1, none⟩ = some (.string x.nm) ∧ w6.cell? ⟨gb, ob + j * 4 + 2, none⟩ = some (.bool false) ∧ w6.cell? ⟨gb, ob + j * 4 + 3, none⟩ = some (.slice va vn vc) := keep4 ⟨z0, z1, l2, l3⟩ hb6
                        refine hK.out _ _ k6 (fun hHeld => ?_)
                        clear hK K
                        try simp only [Act.put, List.setIfInBounds_toArray, List.set_cons_zero, List.set_cons_succ]
                        refine tky 19 (some 106) rfl rfl ⟨?vtC19, fun w hSw => ?atC19, fun _ _ _ h => h, ?btC19⟩
                        case atC19 => (try dsimp only at hSw); go_simp; (try rfl)
                        try simp only [Act.put, List.setIfInBounds_toArray, List.set_cons_zero, List.set_cons_succ]
                        refine tky 20 (some 107) rfl rfl ⟨?vtC20, fun w hSw => ?atC20, fun _ _ _ h => h, ?btC20⟩
                        case atC20 => (try dsimp only at hSw); go_simp; (try rfl)
                        try simp only [Act.put, List.setIfInBounds_toArray, List.set_cons_zero, List.set_cons_succ]
                        refine tkn 21 (some 108) rfl rfl ?_
                        try simp only [Act.put, List.setIfInBounds_toArray, List.set_cons_zero, List.set_cons_succ]
                        refine tkn 22 (some 109) rfl rfl ?_
                        try simp only [Act.put, List.setIfInBounds_toArray, List.set_cons_zero, List.set_cons_succ]
                        refine tkn 23 (some 110) rfl rfl ?_
                        try simp only [Act.put, List.setIfInBounds_toArray, List.set_cons_zero, List.set_cons_succ]
                        refine tkn 24 (some 111) rfl rfl ?_
                        try simp only [Act.put, List.setIfInBounds_toArray, List.set_cons_zero, List.set_cons_succ]
                        refine tkn 25 (some 112) rfl rfl ?_
                        try simp only [Act.put, List.setIfInBounds_toArray, List.set_cons_zero, List.set_cons_succ]
                        refine tkn 26 (some 113) rfl rfl ?_
                        try simp only [Act.put, List.setIfInBounds_toArray, List.set_cons_zero, List.set_cons_succ]
                        refine tkn 27 (some 114) rfl rfl ?_
                        try simp only [Act.put, List.setIfInBounds_toArray, List.set_cons_zero, List.set_cons_succ]
                        refine tkn 28 (some 115) rfl rfl ?_
                        try simp only [Act.put, List.setIfInBounds_toArray, List.set_cons_zero, List.set_cons_succ]
                        refine tkn 29 (some 116) rfl rfl ?_
                        try simp only [Act.put, List.setIfInBounds_toArray, List.set_cons_zero, List.set_cons_succ]
                        refine tkn 30 (some 117) rfl rfl ?_
                        try simp only [Act.put, List.setIfInBounds_toArray, List.set_cons_zero, List.set_cons_succ]
                        refine tkn 31 (some 118) rfl rfl ?_
                        try simp only [Act.put, List.setIfInBounds_toArray, List.set_cons_zero, List.set_cons_succ]
                        refine tkn 32 (some 119) rfl rfl ?_
                        try simp only [Act.put, List.setIfInBounds_toArray, List.set_cons_zero, List.set_cons_succ]
                        refine tky 33 (some 120) rfl rfl ⟨?vtC33, fun w hSw => ?atC33, fun _ _ _ h => h, ?btC33⟩
                        case atC33 => (try dsimp only at hSw); go_simp; (try rfl)
                        try simp only [Act.put, List.setIfInBounds_toArray, List.set_cons_zero, List.set_cons_succ]
                        refine tky 34 (some 15) rfl rfl ⟨?vtC34, fun w hSw => ?atC34, fun _ _ _ h => h, ?btC34⟩
                        case atC34 => (try dsimp only at hSw); go_simp; (try rfl)
                        try simp only [Act.put, List.setIfInBounds_toArray, List.set_cons_zero, List.set_cons_succ]
                        refine wpAnyH_done (by kernel_rfl) ?_ _
                        go_wp2
                        exact ⟨⟨j + 1, true, rfl, by simp, by omega, HT.out, chainB HB3.out hb6⟩, by simp [intOf]; omega⟩
                      | false =>
                        rw [show inK bk.ks ⟨x.d, x.nm⟩ = false from hq] at hA
                        have HT : Hid (inK bk.ks (bare x) = goneL (L.take (j + 1)) x) := by rw [HG.out, hall, hq]; rfl
                        clear HG hall hq
                        go_upto_region 21 with fail
                        refine wp_region_held_drew (S := fun w' => w'.cell? ⟨g9, k * 2, none⟩ = some (.int .i64 x.d) ∧ w'.cell? ⟨g9, k * 2 + 1, none⟩ = some (.string x.nm) ∧ w'.cell? ⟨gb, ob + j * 4 + 2, none⟩ = some (.bool false) ∧ w'.cell? ⟨gb, ob + j * 4 + 3, none⟩ = some (.slice va vn vc)) (by kernel_rfl) ⟨z0, z1, l2, l3⟩ (fun hHeld => ?_)
                        refine tky 0 (some 87) rfl rfl ⟨?vtD0, fun w hSw => ?atD0, fun _ _ _ h => h, ?btD0⟩
                        case atD0 => (try dsimp only at hSw); go_simp; (try rfl)
                        try simp only [Act.put, List.setIfInBounds_toArray, List.set_cons_zero, List.set_cons_succ]
                        refine tky 1 (some 88) rfl rfl ⟨?vtD1, fun w hSw => ?atD1, fun _ _ _ h => h, ?btD1⟩
                        case atD1 => (try dsimp only at hSw); go_simp; (try rfl)
                        try simp only [Act.put, List.setIfInBounds_toArray, List.set_cons_zero, List.set_cons_succ]
                        refine tky 2 (some 89) rfl rfl ⟨?vtD2, fun w hSw => ?atD2, fun _ _ _ h => h, ?btD2⟩
                        case atD2 => (try dsimp only at hSw); go_simp; (try rfl)
                        try simp only [Act.put, List.setIfInBounds_toArray, List.set_cons_zero, List.set_cons_succ]
                        refine tky 3 (some 90) rfl rfl ⟨?vtD3, fun w hSw => ?atD3, fun _ _ _ h => h, ?btD3⟩
                        case atD3 => (try dsimp only at hSw); go_simp; (try rfl)
                        try simp only [Act.put, List.setIfInBounds_toArray, List.set_cons_zero, List.set_cons_succ]
                        refine tky 4 (some 91) rfl rfl ⟨?vtD4, fun w hSw => ?atD4, fun _ _ _ h => h, ?btD4⟩
                        case atD4 => (try dsimp only at hSw); go_simp; (try rfl)
                        try simp only [Act.put, List.setIfInBounds_toArray, List.set_cons_zero, List.set_cons_succ]
                        refine tky 5 (some 92) rfl rfl ⟨?vtD5, fun w hSw => ?atD5, fun _ _ _ h => h, ?btD5⟩
                        case atD5 => (try dsimp only at hSw); go_simp; (try rfl)
                        try simp only [Act.put, List.setIfInBounds_toArray, List.set_cons_zero, List.set_cons_succ]
                        refine tky 6 (some 93) rfl rfl ⟨.bool false, fun w hSw => ?atD6, fun _ _ _ h => h, ?btD6⟩
                        case atD6 => (try dsimp only at hSw); go_simp; (try rfl)
                        try simp only [Act.put, List.setIfInBounds_toArray, List.set_cons_zero, List.set_cons_succ]
                        refine tky 7 (some 94) rfl rfl ⟨?vtD7, fun w hSw => ?atD7, fun _ _ _ h => h, ?btD7⟩
                        case atD7 => (try dsimp only at hSw); go_simp; (try rfl)
                        try simp only [Act.put, List.setIfInBounds_toArray, List.set_cons_zero, List.set_cons_succ]
                        refine tky 8 (some 95) rfl rfl ⟨?vtD8, fun w hSw => ?atD8, fun _ _ _ h => h, ?btD8⟩
                        case atD8 => (try dsimp only at hSw); go_simp; (try rfl)
                        try simp only [Act.put, List.setIfInBounds_toArray, List.set_cons_zero, List.set_cons_succ]
                        refine tky 9 (some 96) rfl rfl ⟨?vtD9, fun w hSw => ?atD9, fun _ _ _ h => h, ?btD9⟩
                        case atD9 => (try dsimp only at hSw); go_simp; (try rfl)
                        try simp only [Act.put, List.setIfInBounds_toArray, List.set_cons_zero, List.set_cons_succ]
                        refine tky 10 (some 97) rfl rfl ⟨?vtD10, fun w hSw => ?atD10, fun _ _ _ h => h, ?btD10⟩
                        case atD10 => (try dsimp only at hSw); go_simp; (try rfl)
                        try simp only [Act.put, List.setIfInBounds_toArray, List.set_cons_zero, List.set_cons_succ]
                        refine tky 11 (some 98) rfl rfl ⟨?vtD11, fun w hSw => ?atD11, fun _ _ _ h => h, ?btD11⟩
                        case atD11 => (try dsimp only at hSw); go_simp; (try rfl)
                        try simp only [Act.put, List.setIfInBounds_toArray, List.set_cons_zero, List.set_cons_succ]
                        refine tky 12 (some 99) rfl rfl ⟨?vtD12, fun w hSw => ?atD12, fun _ _ _ h => h, ?btD12⟩
                        case atD12 => (try dsimp only at hSw); go_simp; (try rfl)
                        try simp only [Act.put, List.setIfInBounds_toArray, List.set_cons_zero, List.set_cons_succ]
                        refine tky 13 (some 100) rfl rfl ⟨?vtD13, fun w hSw => ?atD13, fun _ _ _ h => h, ?btD13⟩
                        case atD13 => (try dsimp only at hSw); go_simp; (try rfl)
                        try simp only [Act.put, List.setIfInBounds_toArray, List.set_cons_zero, List.set_cons_succ]
                        refine tky 14 (some 101) rfl rfl ⟨?vtD14, fun w hSw => ?atD14, fun _ _ _ h => h, ?btD14⟩
                        case atD14 => (try dsimp only at hSw); go_simp; (try rfl)
                        try simp only [Act.put, List.setIfInBounds_toArray, List.set_cons_zero, List.set_cons_succ]
                        refine tky 15 (some 102) rfl rfl ⟨?vtD15, fun w hSw => ?atD15, fun _ _ _ h => h, ?btD15⟩
                        case atD15 => (try dsimp only at hSw); go_simp; (try rfl)
                        try simp only [Act.put, List.setIfInBounds_toArray, List.set_cons_zero, List.set_cons_succ]
                        refine tky 16 (some 103) rfl rfl ⟨?vtD16, fun w hSw => ?atD16, fun _ _ _ h => h, ?btD16⟩
                        case atD16 => (try dsimp only at hSw); go_simp; (try rfl)
                        try simp only [Act.put, List.setIfInBounds_toArray, List.set_cons_zero, List.set_cons_succ]
                        refine tky 17 (some 104) rfl rfl ⟨?vtD17, fun w hSw => ?atD17, fun _ _ _ h => h, ?btD17⟩
                        case atD17 => (try dsimp only at hSw); go_simp; (try rfl)
                        try simp only [Act.put, List.setIfInBounds_toArray, List.set_cons_zero, List.set_cons_succ]
                        refine wpAnyH_ready (rs := [18]) (by kernel_rfl) (by simp) ?_
                        refine AllReadyH.cons rfl (fun K hK => ?_) AllReadyH.nil
                        go_simp
                        go_at_call 32
                        refine hA.mono ?_
                        rintro e w6 ⟨rfl, hb60⟩
                        have hb6 := undrew hb60
                        have k6 : w6.cell? ⟨g9, k * 2, none⟩ = some (.int .i64 x.d) ∧ w6.cell? ⟨g9, k * 2 + 1, none⟩ = some (.string x.nm) ∧ w6.cell? ⟨gb, ob + j * 4 + 2, none⟩ = some (.bool false) ∧ w6.cell? ⟨gb, ob + j * 4 + 3, none⟩ = some (.slice va vn vc) := keep4 ⟨z0, z1, l2, l3⟩ hb6
                        refine hK.out _ _ k6 (fun hHeld => ?_)
                        clear hK K
                        try simp only [Act.put, List.setIfInBounds_toArray, List.set_cons_zero, List.set_cons_succ]
                        refine tky 19 (some 106) rfl rfl ⟨?vtD19, fun w hSw => ?atD19, fun _ _ _ h => h, ?btD19⟩
                        case atD19 => (try dsimp only at hSw); go_simp; (try rfl)
                        try simp only [Act.put, List.setIfInBounds_toArray, List.set_cons_zero, List.set_cons_succ]
                        refine tky 20 (some 107) rfl rfl ⟨?vtD20, fun w hSw => ?atD20, fun _ _ _ h => h, ?btD20⟩
                        case atD20 => (try dsimp only at hSw); go_simp; (try rfl)
                        try simp only [Act.put, List.setIfInBounds_toArray, List.set_cons_zero, List.set_cons_succ]
                        refine tky 21 (some 108) rfl rfl ⟨?vtD21, fun w hSw => ?atD21, fun _ _ _ h => h, ?btD21⟩
                        case atD21 => (try dsimp only at hSw); go_simp; (try rfl)
                        try simp only [Act.put, List.setIfInBounds_toArray, List.set_cons_zero, List.set_cons_succ]
                        refine tky 22 (some 109) rfl rfl ⟨?vtD22, fun w hSw => ?atD22, fun _ _ _ h => h, ?btD22⟩
                        case atD22 => (try dsimp only at hSw); go_simp; (try rfl)
                        try simp only [Act.put, List.setIfInBounds_toArray, List.set_cons_zero, List.set_cons_succ]
                        refine tky 23 (some 110) rfl rfl ⟨?vtD23, fun w hSw => ?atD23, fun _ _ _ h => h, ?btD23⟩
                        case atD23 => (try dsimp only at hSw); go_simp; (try rfl)
                        try simp only [Act.put, List.setIfInBounds_toArray, List.set_cons_zero, List.set_cons_succ]
                        refine tky 24 (some 111) rfl rfl ⟨?vtD24, fun w hSw => ?atD24, fun _ _ _ h => h, ?btD24⟩
                        case atD24 => (try dsimp only at hSw); go_simp; (try rfl)
                        try simp only [Act.put, List.setIfInBounds_toArray, List.set_cons_zero, List.set_cons_succ]
                        refine tky 25 (some 112) rfl rfl ⟨?vtD25, fun w hSw => ?atD25, fun _ _ _ h => h, ?btD25⟩
                        case atD25 => (try dsimp only at hSw); go_simp; (try rfl)
                        try simp only [Act.put, List.setIfInBounds_toArray, List.set_cons_zero, List.set_cons_succ]
                        refine tky 26 (some 113) rfl rfl ⟨?vtD26, fun w hSw => ?atD26, fun _ _ _ h => h, ?btD26⟩
                        case atD26 => (try dsimp only at hSw); go_simp; (try rfl)
                        try simp only [Act.put, List.setIfInBounds_toArray, List.set_cons_zero, List.set_cons_succ]
                        refine tky 27 (some 114) rfl rfl ⟨?vtD27, fun w hSw => ?atD27, fun _ _ _ h => h, ?btD27⟩
                        case atD27 => (try dsimp only at hSw); go_simp; (try rfl)
                        try simp only [Act.put, List.setIfInBounds_toArray, List.set_cons_zero, List.set_cons_succ]
                        refine tky 28 (some 115) rfl rfl ⟨?vtD28, fun w hSw => ?atD28, fun _ _ _ h => h, ?btD28⟩
                        case atD28 => (try dsimp only at hSw); go_simp; (try rfl)
                        try simp only [Act.put, List.setIfInBounds_toArray, List.set_cons_zero, List.set_cons_succ]
                        refine tky 29 (some 116) rfl rfl ⟨?vtD29, fun w hSw => ?atD29, fun _ _ _ h => h, ?btD29⟩
                        case atD29 => (try dsimp only at hSw); go_simp; (try rfl)
                        try simp only [Act.put, List.setIfInBounds_toArray, List.set_cons_zero, List.set_cons_succ]
                        refine tky 30 (some 117) rfl rfl ⟨?vtD30, fun w hSw => ?atD30, fun _ _ _ h => h, ?btD30⟩
                        case atD30 => (try dsimp only at hSw); go_simp; (try rfl)
                        try simp only [Act.put, List.setIfInBounds_toArray, List.set_cons_zero, List.set_cons_succ]
                        refine tky 31 (some 118) rfl rfl ⟨?vtD31, fun w hSw => ?atD31, fun _ _ _ h => h, ?btD31⟩
                        case atD31 => (try dsimp only at hSw); go_simp; (try rfl)
                        try simp only [Act.put, List.setIfInBounds_toArray, List.set_cons_zero, List.set_cons_succ]
                        refine wpAnyH_ready (rs := [32]) (by kernel_rfl) (by simp) ?_
                        refine AllReadyH.cons rfl (fun K hK => ?_) AllReadyH.nil
                        go_simp
                        go_at_call 32
                        refine (HIn.out _ hb6 _ _).mono ?_
                        rintro e w7 ⟨rfl, hb7⟩
                        have k7 : w7.cell? ⟨g9, k * 2, none⟩ = some (.int .i64 x.d) ∧ w7.cell? ⟨g9, k * 2 + 1, none⟩ = some (.string x.nm) ∧ w7.cell? ⟨gb, ob + j * 4 + 2, none⟩ = some (.bool false) ∧ w7.cell? ⟨gb, ob + j * 4 + 3, none⟩ = some (.slice va vn vc) := keep4 k6 hb7
                        refine hK.out _ _ k7 (fun hHeld => ?_)
                        clear hK K
                        try simp only [Act.put, List.setIfInBounds_toArray, List.set_cons_zero, List.set_cons_succ]
                        refine tky 33 (some 120) rfl rfl ⟨?vtD33, fun w hSw => ?atD33, fun _ _ _ h => h, ?btD33⟩
                        case atD33 => (try dsimp only at hSw); go_simp; (try rfl)
                        try simp only [Act.put, List.setIfInBounds_toArray, List.set_cons_zero, List.set_cons_succ]
                        refine tky 34 (some 15) rfl rfl ⟨?vtD34, fun w hSw => ?atD34, fun _ _ _ h => h, ?btD34⟩
                        case atD34 => (try dsimp only at hSw); go_simp; (try rfl)
                        try simp only [Act.put, List.setIfInBounds_toArray, List.set_cons_zero, List.set_cons_succ]
                        refine wpAnyH_done (by kernel_rfl) ?_ _
                        go_wp2
                        exact ⟨⟨j + 1, _, rfl, by simp, by omega, HT.out, chainB (chainB HB3.out hb6) hb7⟩, by simp [intOf]; omega⟩
                · obtain rfl : j = nL := by omega
                  have hljz : ¬ (j : Int) < (j : Int) := by omega
                  have hst := leftL_step (L := L) HX.out
                  have hcc := HC.out.1
                  rw [List.take_of_length_le (by rw [HM.out.2]; omega)] at hcc
                  rw [← hcc] at hst
                  have HS : Hid (leftL L (K.take (k + 1)) = leftL L (K.take k) ++ (if c then [] else [x])) := hst
                  clear hst hcc y0 y1
                  cases c with
                  | true =>
                    go_wp2
                    refine ⟨⟨k + 1, by simp, by omega, chainB HR.out.1 HC.out.2, ?_⟩, by simp [intOf]; omega⟩
                    have := HS.out
                    simp only [if_true, List.append_nil] at this
                    rw [this]; exact HR.out.2.below HC.out.2
                  | false =>
                    have HO : Hid (W3.ownsRow w3.heap.size 36 2 (.slice a13 n13 c13) n13 (kc (leftL L (K.take k))) ∧ w3.heap.size ≤ W3.heap.size) := by
                      have hr := HR.out.2.below HC.out.2
                      unfold RowK at hr
                      rw [HN.out] at hr
                      exact ⟨hr, Nat.le_trans HR.out.1.size HC.out.2.size⟩
                    go_wp2_with (at_builtin; refine wpList_append_own _ rfl _ _ 31 rfl w3.heap.size 36 i1 (.agg #[.int .i64 0, .string ⟨#[]⟩]) 2 24 Try.underlying31 hi1 hw0 hw1 hw2 rfl (by decide) _ n13 (kc (leftL L (K.take k))) rfl (World.ownsRow.alloc HO.out.1 _) ⟨W3.heap.size, 0, none⟩ 1 1 x.vals rfl rfl (one_key _ _) (ky_one _) (by unfold maxLen; omega) (by omega) (by have := HO.out.2; simp; omega) ?_; intro v4 w4 hown4 hgrow4 _)
                    refine ⟨⟨k + 1, by simp, by omega, ?_, ?_⟩, by simp [intOf]; omega⟩
                    · have h3 : Below w3.heap.size w3 W3 := chainB HR.out.1 HC.out.2
                      exact (h3.alloc (by have := h3.size; omega) _).grown hgrow4 (by have := h3.size; simp; omega) (fun k hk => (HO.out.1.lt k hk).1)
                    · have := HS.out
                      simp only [Bool.false_eq_true, if_false] at this
                      rw [this]
                      show World.ownsRow _ _ _ _ _ _ _
                      rw [List.length_append, HN.out, kc_app]; exact hown4
            · obtain rfl : k = nK := by omega
              have hlkz : ¬ (k : Int) < (k : Int) := by omega
              go_upto_region 25 with fail
              rename_i K29 h29 Kc hc
              have key2 : ∀ (v9 : Value) (w5 : World) (K5 : List Ky), TI w w5 w.heap.size v9 S' K5 (i + 1) → ∀ (x6 x11 x12 x13 x14 x15 x16 x17 x47 x48 x49 x50 x51 x52 x53 x54 x55 x56 x57 x58 x59 x60 x61 x62 x63 x64 x65 x66 x67 x68 x69 x70 x71 x72 x73 x74 x75 x76 x77 x78 x79 x80 x81 x82 x83 x84 x85 x86 x87 x88 x89 x90 x91 x92 x93 x94 x95 x96 x97 x98 x99 x100 x101 x102 x103 x104 x105 x106 x107 x108 x109 x110 x111 x112 x113 x114 x115 x116 x117 x118 x119 x120 x121 x122 x123 x124 x125 x126 x127 x128 x129 x130 x131 x132 x133 x134 x135 x136 x137 x138 x139 x140 x141 x142 x143 x144 x145 x146 x147 x148 x149 x150 x151 x152 x153 x154 x155 x156 x157 x158 x159 x160 x161 x162 x163 x164 x165 x166 x167 x168 x169 x170 x171 x172 x173 x174 x175 x176 x177 x178 x179 x180 x181 x182 x183 x184 : Value), K29 ⟨#[.int .i64 P, .int .i64 Q, .slice (some ⟨b, off, none⟩) n cap, undef, undef, undef, x6, .pointer (some ⟨w.heap.size, 0, none⟩), .int .i64 0, v9, .int .i64 i, x11, x12, x13, x14, x15, x16, x17, .tuple #[.pointer (some ⟨w.heap.size, 0, none⟩), .int .i64 0], .int .i64 P, .int .i64 Q, .tuple #[.pointer (some ⟨w.heap.size, 0, none⟩), .int .i64 0], .pointer (some ⟨w.heap.size, 0, none⟩), .int .i64 0, .int .i64 0, .bool false, .bool false, .pointer (some ⟨w.heap.size, 0, none⟩), .bool false, .bool false, undef, undef, undef, undef, undef, undef, undef, undef, undef, undef, undef, undef, undef, undef, undef, undef, undef, x47, x48, x49, x50, x51, x52, x53, x54, x55, x56, x57, x58, x59, x60, x61, x62, x63, x64, x65, x66, x67, x68, x69, x70, x71, x72, x73, x74, x75, x76, x77, x78, x79, x80, x81, x82, x83, x84, x85, x86, x87, x88, x89, x90, x91, x92, x93, x94, x95, x96, x97, x98, x99, x100, x101, x102, x103, x104, x105, x106, x107, x108, x109, x110, x111, x112, x113, x114, x115, x116, x117, x118, x119, x120, x121, x122, x123, x124, x125, x126, x127, x128, x129, x130, x131, x132, x133, x134, x135, x136, x137, x138, x139, x140, x141, x142, x143, x144, x145, x146, x147, x148, x149, x150, x151, x152, x153, x154, x155, x156, x157, x158, x159, x160, x161, x162, x163, x164, x165, x166, x167, x168, x169, x170, x171, x172, x173, x174, x175, x176, x177, x178, x179, x180, x181, x182, x183, x184, undef], []⟩ w5 := by
                intro v9 w5 K5 hT x6 x11 x12 x13 x14 x15 x16 x17 x47 x48 x49 x50 x51 x52 x53 x54 x55 x56 x57 x58 x59 x60 x61 x62 x63 x64 x65 x66 x67 x68 x69 x70 x71 x72 x73 x74 x75 x76 x77 x78 x79 x80 x81 x82 x83 x84 x85 x86 x87 x88 x89 x90 x91 x92 x93 x94 x95 x96 x97 x98 x99 x100 x101 x102 x103 x104 x105 x106 x107 x108 x109 x110 x111 x112 x113 x114 x115 x116 x117 x118 x119 x120 x121 x122 x123 x124 x125 x126 x127 x128 x129 x130 x131 x132 x133 x134 x135 x136 x137 x138 x139 x140 x141 x142 x143 x144 x145 x146 x147 x148 x149 x150 x151 x152 x153 x154 x155 x156 x157 x158 x159 x160 x161 x162 x163 x164 x165 x166 x167 x168 x169 x170 x171 x172 x173 x174 x175 x176 x177 x178 x179 x180 x181 x182 x183 x184
                obtain ⟨a5, c5, h5⟩ := owns_len hT.row
                obtain ⟨n5, hn5⟩ : ∃ n, K5.length = n := ⟨_, rfl⟩
                rw [hn5] at h5
                subst h5
                have hn5b : n5 ≤ 2097154 := by have := hT.len; omega
                have HT : Hid (TI w w5 w.heap.size (.slice a5 n5 c5) S' K5 (i + 1) ∧ K5.length = n5) := ⟨hT, hn5⟩
                clear hT hn5
                apply h29
                clear h29 hc Kc
                go_wp2
                go_loopw [17] (fun s17 wr5 => ∃ k5 : Nat, s17 = .int .i64 k5 ∧ k5 ≤ n5 ∧ Hid (Below w5.heap.size w5 wr5)) (fun s17 _ => n5 - (intOf s17).toNat)
                case atStart => exact ⟨0, rfl, Nat.zero_le _, Below.refl _ _⟩
                case round =>
                  rename World => W5
                  obtain ⟨k5, rfl, hk5, HB5⟩ := hrel
                  by_cases hl5 : k5 < n5
                  · obtain ⟨x5, hx5⟩ : ∃ x, K5[k5]? = some x := ⟨_, List.getElem?_eq_getElem (by rw [HT.out.2]; exact hl5)⟩
                    have hl5z : (k5 : Int) < (n5 : Int) := by omega
                    obtain ⟨g5, hg5, -, -, y0, y1, -⟩ := (HT.out.1.row.below HB5.out).key hx5
                    subst hg5
                    have hcv := HT.out.1.cov x5 (List.mem_of_getElem? hx5)
                    have hho := lv_holds (HT.out.1.on HB5.out).lv x5
                    have HH2 : Hid (∀ w6, Below W5.heap.size W5 w6 → Calls Try.prog 14 #[.pointer (some ⟨w.heap.size, 0, none⟩), .agg #[.int .i64 x5.d, .string ⟨#[]⟩]] w6 fun x w' => x = .returned (.bool (inK S'.ks (bare x5))) ∧ Below w6.heap.size w6 w') := fun w6 hb => lv_holds (HT.out.1.on (chainB HB5.out hb)).lv (bare x5)
                    unfold Ky.agg at hho
                    clear hx5
                    cases hq : inK S'.ks x5 with
                    | true =>
                      rw [hq] at hho
                      clear hq hcv HH2
                      go_wp2_with (go_at_call 14; refine hho.mono ?_; rintro e w6 ⟨rfl, hb6⟩)
                      exact ⟨⟨k5 + 1, by simp, by omega, chainB HB5.out hb6⟩, by simp [intOf]; omega⟩
                    | false =>
                      have hq2 : inK S'.ks (bare x5) = true := by
                        rcases hcv with g | g
                        · rw [(inK_iff _ _).2 g] at hq; cases hq
                        · exact (inK_iff _ _).2 g
                      rw [hq] at hho
                      rw [hq2] at HH2
                      clear hq hcv hq2
                      go_wp2_with (first
                        | (go_at_call 14; refine hho.mono ?_; rintro e w6 ⟨rfl, hb6⟩; have u0 := (hb6.cell (cellLt y0)).trans y0; have u1 := (hb6.cell (cellLt y1)).trans y1)
                        | (go_at_call 14; refine (HH2.out _ hb6).mono ?_; rintro e w7 ⟨rfl, hb7⟩))
                      exact ⟨⟨k5 + 1, by simp, by omega, chainB (chainB HB5.out hb6) hb7⟩, by simp [intOf]; omega⟩
                  · obtain rfl : k5 = n5 := by omega
                    have hl5z : ¬ (k5 : Int) < (k5 : Int) := by omega
                    go_wp2
                    exact ⟨⟨i + 1, S', K5, by simp, by omega, HT.out.1.on HB5.out⟩, by simp [intOf]; omega⟩
              have hbx := HM.out.1.box
              have e0 := cell_of hbx 0
              have e4 := cell_of hbx 4
              simp at e0 e4
              have HE : Hid (w3.cell? ⟨W0.heap.size, 4, none⟩ = some (.slice o.va o.vn o.vc)) := e4
              have hb2 := HR.out.1
              have d0 := (hb2.cell (cellLt e0)).trans e0
              have d4 := (hb2.cell (cellLt e4)).trans e4
              have hrow := HR.out.2
              rw [List.take_of_length_le (by rw [HA.out.2.2]; omega)] at hrow HN
              obtain ⟨f, hf⟩ : ∃ f, firstK o.ks = f := ⟨_, rfl⟩
              have HF : Hid (∀ W, Below w3.heap.size w3 W → Calls Try.prog 13 #[.slice o.va o.vn o.vc] W fun e w' => e = .returned (.agg #[.int .i64 f.d, .string f.nm]) ∧ Below W.heap.size W w') := fun W hb => by
                have := first_p _ o.ks W (HM.out.1.arg.below hb)
                rw [hf] at this; exact this
              have HHo : Hid (∀ W, Below w3.heap.size w3 W → Calls Try.prog 14 #[.pointer (some ⟨w.heap.size, 0, none⟩), .agg #[.int .i64 f.d, .string f.nm]] W fun e w' => e = .returned (.bool (inK S'.ks f)) ∧ Below W.heap.size W w') := fun W hb => lv_holds (HM.out.1.lv.on hb) f
              have HRow : Hid (RowK W2 w3.heap.size (.slice a13 n13 c13) (leftL L K)) := hrow
              have HB2 : Hid (Below w3.heap.size w3 W2) := hb2
              have HLn : Hid (n13 ≤ 2 * i) := by have h1 := HM.out.1.len; have h2 := HA.out.2.2; show n13 ≤ 2 * i; omega
              have hn13b : n13 ≤ 2097152 := by omega
              clear e0 e4 hbx hb2 hrow hf HR
              by_cases hp : pk = 1
              · have hpz : ((pk : Int) != 1) = false := by rw [hp]; rfl
                go_wp2_with (go_at_call 12; refine (hp1 _).mono ?_; rintro e w' ⟨rfl, rfl⟩)
                exact key2 _ _ _ (HM.out.1.ti HB2.out HRow.out (by rw [HN.out]; have := HLn.out; omega) HM.out.1.cov) ..
              · have hpz : ((pk : Int) != 1) = true := by simp; omega
                cases hq : inK S'.ks f with
                | false =>
                  rw [hq] at HHo
                  clear hq
                  go_wp2_with (first
                    | (go_at_call 12; refine (hp1 _).mono ?_; rintro e w' ⟨rfl, rfl⟩)
                    | (go_at_call 13; refine (HF.out _ HB2.out).mono ?_; rintro e w6 ⟨rfl, hb6⟩)
                    | (go_at_call 14; refine (HHo.out _ (chainB HB2.out hb6)).mono ?_; rintro e w7 ⟨rfl, hb7⟩))
                  exact key2 _ _ _ (HM.out.1.ti (chainB (chainB HB2.out hb6) hb7) ((HRow.out.below hb6).below hb7) (by rw [HN.out]; have := HLn.out; omega) HM.out.1.cov) ..
                | true =>
                  have HQ : Hid (f ∈ S'.ks) := (inK_iff _ _).1 hq
                  rw [hq] at HHo
                  clear hq
                  go_upto_region 26 with (first
                    | (go_at_call 12; refine (hp1 _).mono ?_; rintro e w' ⟨rfl, rfl⟩)
                    | (go_at_call 13; refine (HF.out _ HB2.out).mono ?_; rintro e w6 ⟨rfl, hb6⟩)
                    | (go_at_call 14; refine (HHo.out _ (chainB HB2.out hb6)).mono ?_; rintro e w7 ⟨rfl, hb7⟩))
                  have HB7 : Hid (Below w3.heap.size w3 w7) := chainB (chainB HB2.out hb6) hb7
                  have HR7 : Hid (RowK w7 w3.heap.size (.slice a13 n13 c13) (leftL L K)) := (HRow.out.below hb6).below hb7
                  have f4 := (HB7.out.cell (cellLt HE.out)).trans HE.out
                  clear hb6 hb7 HRow HB2 d0 d4 HHo
                  have HO : Hid (∀ W, Below w7.heap.size w7 W → W.ownsRow w3.heap.size 36 2 (.slice a13 n13 c13) n13 (kc (leftL L K)) ∧ w3.heap.size ≤ W.heap.size) := fun W hb => by
                    have hr := HR7.out.below hb
                    unfold RowK at hr
                    rw [HN.out] at hr
                    exact ⟨hr, Nat.le_trans HB7.out.size hb.size⟩
                  go_upto_region 27 with (first
                    | (go_at_call 13; refine (HF.out _ HB7.out).mono ?_; rintro e w8 ⟨rfl, hb8⟩)
                    | (at_builtin; refine wpList_append_own _ rfl _ _ 31 rfl w3.heap.size 36 i1 (.agg #[.int .i64 0, .string ⟨#[]⟩]) 2 24 Try.underlying31 hi1 hw0 hw1 hw2 rfl (by decide) _ n13 (kc (leftL L K)) rfl (World.ownsRow.alloc (HO.out w8 hb8).1 _) ⟨w8.heap.size, 0, none⟩ 1 1 f.vals rfl rfl (one_key _ _) (ky_one _) (by unfold maxLen; omega) (by omega) (by have := (HO.out w8 hb8).2; simp; omega) ?_; intro v9 w9 hown9 hgrow9 _))
                  have HB9 : Hid (Below w3.heap.size w3 w9) := by
                    have h3 : Below w3.heap.size w3 w8 := chainB HB7.out hb8
                    exact (h3.alloc (by have := h3.size; omega) _).grown hgrow9 (by have := h3.size; simp; omega) (fun k hk => ((HO.out w8 hb8).1.lt k hk).1)
                  have HR9 : Hid (RowK w9 w3.heap.size v9 (leftL L K ++ [f])) := by
                    show World.ownsRow _ _ _ _ _ _ _
                    rw [List.length_append, HN.out, kc_app]; exact hown9
                  have g4 := (HB9.out.cell (cellLt HE.out)).trans HE.out
                  have HN9 : Hid ((leftL L K ++ [f]).length = n13 + 1) := by show _ = _; rw [List.length_append, HN.out]; rfl
                  obtain ⟨a9', c9', h9'⟩ := owns_len HR9.out
                  rw [HN9.out] at h9'
                  subst h9'
                  clear hb8 hown9 hgrow9 HO HR7 HB7 f4
                  by_cases hnm : f.nm = ⟨#[]⟩
                  · have HAny : Hid (Cov S' ((leftL L K ++ [f]) ++ [anyK f])) := (HM.out.1.cov.snoc HQ.out).any HQ.out hnm
                    rw [hnm] at HF
                    have HO : Hid (∀ W, Below w9.heap.size w9 W → W.ownsRow w3.heap.size 36 2 (.slice a9' (n13 + 1) c9') (n13 + 1) (kc (leftL L K ++ [f])) ∧ w3.heap.size ≤ W.heap.size) := fun W hb => by
                      have hr := HR9.out.below hb
                      unfold RowK at hr
                      rw [HN9.out] at hr
                      exact ⟨hr, Nat.le_trans HB9.out.size hb.size⟩
                    clear hnm
                    go_upto_region 28 with (first
                      | (go_at_call 13; refine (HF.out _ HB9.out).mono ?_; rintro e w10 ⟨rfl, hb10⟩))
                    have HB10 : Hid (Below w3.heap.size w3 w10) := chainB HB9.out hb10
                    have HO10 : Hid (∀ W, Below w10.heap.size w10 W → W.ownsRow w3.heap.size 36 2 (.slice a9' (n13 + 1) c9') (n13 + 1) (kc (leftL L K ++ [f])) ∧ w3.heap.size ≤ W.heap.size) := fun W hb => HO.out W (chainB hb10 hb)
                    have i4 := (HB10.out.cell (cellLt HE.out)).trans HE.out
                    clear hb10 HO HR9 HB9 g4
                    go_wp2_with (first
                      | (go_at_call 13; refine (HF.out _ HB10.out).mono ?_; rintro e w11 ⟨rfl, hb11⟩)
                      | (at_builtin; refine wpList_append_own _ rfl _ _ 31 rfl w3.heap.size 36 i1 (.agg #[.int .i64 0, .string ⟨#[]⟩]) 2 24 Try.underlying31 hi1 hw0 hw1 hw2 rfl (by decide) _ (n13 + 1) (kc (leftL L K ++ [f])) rfl (World.ownsRow.alloc (HO10.out w11 hb11).1 _) ⟨w11.heap.size, 0, none⟩ 1 1 (anyK f).vals rfl rfl (one_key _ (anyK f)) (ky_one _) (by unfold maxLen; omega) (by omega) (by have := (HO10.out w11 hb11).2; simp; omega) ?_; intro v12 w12 hown12 hgrow12 _))
                    have HB12 : Below w3.heap.size w3 w12 := by
                      have h3 : Below w3.heap.size w3 w11 := chainB HB10.out hb11
                      exact (h3.alloc (by have := h3.size; omega) _).grown hgrow12 (by have := h3.size; simp; omega) (fun k hk => ((HO10.out w11 hb11).1.lt k hk).1)
                    have HR12 : RowK w12 w3.heap.size v12 ((leftL L K ++ [f]) ++ [anyK f]) := by
                      show World.ownsRow _ _ _ _ _ _ _
                      rw [List.length_append, HN9.out, kc_app]; exact hown12
                    exact key2 _ _ _ (HM.out.1.ti HB12 HR12 (by rw [List.length_append, HN9.out]; have := HLn.out; simp; omega) HAny.out) ..
                  · have hnmz : (f.nm.toList == []) = false := by
                      refine beq_eq_false_iff_ne.2 fun h => hnm (bytes_eq.1 ?_)
                      rw [h, ByteArray.toList_eq]
                    go_wp2_with (go_at_call 13; refine (HF.out _ HB9.out).mono ?_; rintro e w10 ⟨rfl, hb10⟩)
                    exact key2 _ _ _ (HM.out.1.ti (chainB HB9.out hb10) (HR9.out.below hb10) (by rw [HN9.out]; have := HLn.out; omega) (HM.out.1.cov.snoc HQ.out)) ..
        have HT : Hid (∀ W1 w2 v2 base, Below W0.heap.size W0 W1 → W1.heap[W0.heap.size]? = some (.cells #[.int .i64 o.kind, .int .i64 o.ver, .int .i64 o.ep, .int .i64 o.num, .slice o.va o.vn o.vc] 33 (0, 0)) → RowK w2 base v2 o.ks → Below W1.heap.size W1 w2 → Calls Try.prog 19 #[.pointer (some ⟨w.heap.size, 0, none⟩), v2, .int .i64 o.ver] w2 fun x w' => ∃ v', x = .returned v' ∧ TM w w' w.heap.size W0.heap.size (.slice a9 nK c9) v' (S.touch o.ks o.ver).1 (S.touch o.ks o.ver).2 K S.e o i) := fun W1 w2 v2 base hb1 hbox hr hb2 => by
          have hsz : W0.heap.size < W1.heap.size := (Array.getElem?_eq_some_iff.1 hbox).1
          have hb02 : Below W0.heap.size W0 w2 := chainB hb1 hb2
          have hbox2 := (hb2.block _ hsz).trans hbox
          refine (lv_touch ((HI.out.lv.on hb02).mono (G := fun k => (Value.slice a9 nK c9).ownBlock = some k ∨ k = W0.heap.size) fun k hk => ?_) v2 o.ks o.ver hr.rd (by obtain ⟨_, _, _, hl, _⟩ := HA.out.1; exact hl)).mono ?_
          · rcases hk with hk | hk
            · exact .inl hk
            · exact .inr ⟨by omega, by have := hb2.size; omega⟩
          · rintro x w' ⟨v', rfl, Bq, hc⟩
            exact ⟨v', rfl, tm_of HI.out hb02 hbox2 hc (HA.out.2.1 _ hc.lv.below) (touch_cov _ _ (by have := HI.out.n; unfold MX; omega) HI.out.cov) (by have := touch_n S o.ks o.ver; have := HI.out.n; push_cast; omega) (touch_one _ _ _)⟩
        have HGr : Hid (∀ W1 w2, Below W0.heap.size W0 W1 → W1.heap[W0.heap.size]? = some (.cells #[.int .i64 o.kind, .int .i64 o.ver, .int .i64 o.ep, .int .i64 o.num, .slice o.va o.vn o.vc] 33 (0, 0)) → Below W1.heap.size W1 w2 → Calls Try.prog 17 #[.pointer (some ⟨w.heap.size, 0, none⟩), .agg #[.int .i64 (firstK o.ks).d, .string (firstK o.ks).nm], .int .i64 o.ver] w2 fun x w' => ∃ v', x = .returned v' ∧ TM w w' w.heap.size W0.heap.size (.slice a9 nK c9) v' (S.grant (firstK o.ks) o.ver).1 (S.grant (firstK o.ks) o.ver).2 K S.e o i) := fun W1 w2 hb1 hbox hb2 => by
          have hsz : W0.heap.size < W1.heap.size := (Array.getElem?_eq_some_iff.1 hbox).1
          have hb02 : Below W0.heap.size W0 w2 := chainB hb1 hb2
          have hbox2 := (hb2.block _ hsz).trans hbox
          refine (lv_grant ((HI.out.lv.on hb02).mono (G := fun k => (Value.slice a9 nK c9).ownBlock = some k ∨ k = W0.heap.size) fun k hk => ?_) (firstK o.ks) o.ver).mono ?_
          · rcases hk with hk | hk
            · exact .inl hk
            · exact .inr ⟨by omega, by have := hb2.size; omega⟩
          · rintro x w' ⟨v', rfl, Bq, hc⟩
            exact ⟨v', rfl, tm_of HI.out hb02 hbox2 hc (HA.out.2.1 _ hc.lv.below) (grant_cov _ _ (by have := HI.out.n; unfold MX; omega) HI.out.cov) (by have := grant_n S (firstK o.ks) o.ver; have := HI.out.n; push_cast; omega) (grant_one _ _ _)⟩
        clear h1
        by_cases hp : pk = 1
        · have hpz : ((pk : Int) == 1) = true := by rw [hp]; rfl
          go_upto_region 11 with (go_at_call 12; refine (hp1 _).mono ?_; rintro e w' ⟨rfl, rfl⟩)
          obtain ⟨W1, hW1⟩ : ∃ W, W0.alloc (.cells #[.int .i64 o.kind, .int .i64 o.ver, .int .i64 o.ep, .int .i64 o.num, .slice o.va o.vn o.vc] 33) = W := ⟨_, rfl⟩
          rw [hW1]
          have hb1 : Below W0.heap.size W0 W1 := by rw [← hW1]; exact below_alloc _ _
          have hbox : W1.heap[W0.heap.size]? = some (.cells #[.int .i64 o.kind, .int .i64 o.ver, .int .i64 o.ep, .int .i64 o.num, .slice o.va o.vn o.vc] 33 (0, 0)) := by rw [← hW1]; exact heap_new _ _
          have HT1 : Hid _ := fun w2 v2 base => HT.out W1 w2 v2 base hb1 hbox
          have d1 := cell_of hbox 1
          have d4 := cell_of hbox 4
          simp at d1 d4
          have HCp : Hid (Calls Try.prog 20 #[.slice o.va o.vn o.vc] W1.drew fun e w' => ∃ v', e = .returned v' ∧ RowK w' W1.drew.heap.size v' o.ks ∧ Below W1.drew.heap.size W1.drew w') := copyK_any _ o.ks _ ((HA.out.1.below hb1).below ((Below.refl _ _).drew))
          have HTM : Hid (∀ w3 v3, TM w w3 w.heap.size W0.heap.size (.slice a9 nK c9) v3 (S.touch o.ks o.ver).1 (S.touch o.ks o.ver).2 K S.e o i → w3.cell? ⟨W0.heap.size, 1, none⟩ = some (.int .i64 o.ver) ∧ w3.cell? ⟨W0.heap.size, 4, none⟩ = some (.slice o.va o.vn o.vc)) := fun w3 v3 h => by
            have q1 := cell_of h.box 1
            have q4 := cell_of h.box 4
            simp at q1 q4
            exact ⟨q1, q4⟩
          clear hW1 hbox HT HGr c0 c1 c2 c3 c4
          go_region_held3 (fun w' => w'.cell? ⟨W0.heap.size, 1, none⟩ = some (.int .i64 o.ver) ∧ w'.cell? ⟨W0.heap.size, 4, none⟩ = some (.slice o.va o.vn o.vc))
            (first | exact ⟨d1, d4⟩ | exact k3 | exact k2)
            (first
              | (go_at_call 20; refine HCp.out.mono ?_; rintro e w2 ⟨v2, rfl, hr2, hb20⟩; have hb2 := undrew hb20; obtain ⟨av2, cv2, hv2⟩ := owns_len hr2; subst hv2; have k2 := keep2 ⟨d1, d4⟩ hb2; have htc := HT1.out w2 _ _ hr2 hb2)
              | (go_at_call 19; refine htc.mono ?_; rintro e w3 ⟨v3, rfl, hM3⟩; have k3 := HTM.out _ _ hM3; obtain ⟨av3, cv3, hv3⟩ := hM3.rt.form; subst hv3))
          all_goals
            go_wp2
            exact key _ _ _ _ hM3 ..
        · have hpz : ((pk : Int) == 1) = false := beq_eq_false_iff_ne.2 (by omega)
          go_upto_region 12 with (go_at_call 12; refine (hp1 _).mono ?_; rintro e w' ⟨rfl, rfl⟩)
          obtain ⟨W1, hW1⟩ : ∃ W, W0.alloc (.cells #[.int .i64 o.kind, .int .i64 o.ver, .int .i64 o.ep, .int .i64 o.num, .slice o.va o.vn o.vc] 33) = W := ⟨_, rfl⟩
          rw [hW1]
          have hb1 : Below W0.heap.size W0 W1 := by rw [← hW1]; exact below_alloc _ _
          have hbox : W1.heap[W0.heap.size]? = some (.cells #[.int .i64 o.kind, .int .i64 o.ver, .int .i64 o.ep, .int .i64 o.num, .slice o.va o.vn o.vc] 33 (0, 0)) := by rw [← hW1]; exact heap_new _ _
          have HT1 : Hid _ := fun w2 => HGr.out W1 w2 hb1 hbox
          have d1 := cell_of hbox 1
          have d4 := cell_of hbox 4
          simp at d1 d4
          have HCp : Hid (Calls Try.prog 13 #[.slice o.va o.vn o.vc] W1.drew fun e w' => e = .returned (.agg #[.int .i64 (firstK o.ks).d, .string (firstK o.ks).nm]) ∧ Below W1.drew.heap.size W1.drew w') := first_p _ o.ks _ ((HA.out.1.below hb1).below ((Below.refl _ _).drew))
          have HTM : Hid (∀ w3 v3, TM w w3 w.heap.size W0.heap.size (.slice a9 nK c9) v3 (S.grant (firstK o.ks) o.ver).1 (S.grant (firstK o.ks) o.ver).2 K S.e o i → w3.cell? ⟨W0.heap.size, 1, none⟩ = some (.int .i64 o.ver) ∧ w3.cell? ⟨W0.heap.size, 4, none⟩ = some (.slice o.va o.vn o.vc)) := fun w3 v3 h => by
            have q1 := cell_of h.box 1
            have q4 := cell_of h.box 4
            simp at q1 q4
            exact ⟨q1, q4⟩
          clear hW1 hbox HT HGr c0 c1 c2 c3 c4
          go_region_held3 (fun w' => w'.cell? ⟨W0.heap.size, 1, none⟩ = some (.int .i64 o.ver) ∧ w'.cell? ⟨W0.heap.size, 4, none⟩ = some (.slice o.va o.vn o.vc))
            (first | exact ⟨d1, d4⟩ | exact k3 | exact k2)
            (first
              | (go_at_call 13; refine HCp.out.mono ?_; rintro e w2 ⟨rfl, hb20⟩; have hb2 := undrew hb20; have k2 := keep2 ⟨d1, d4⟩ hb2; have htc := HT1.out w2 hb2)
              | (go_at_call 17; refine htc.mono ?_; rintro e w3 ⟨v3, rfl, hM3⟩; have k3 := HTM.out _ _ hM3; obtain ⟨av3, cv3, hv3⟩ := hM3.rt.form; subst hv3))
          all_goals
            go_wp2
            exact key _ _ _ _ hM3 ..
      · obtain rfl : i = n := by omega
        have hltz : ¬ (i : Int) < (i : Int) := by omega
        go_wp2_with (go_at_call 11; refine (awake_p _).mono ?_; rintro e wf ⟨rfl, hbf⟩)
        go_ret
        exact ⟨rfl, chainB HI.out.lv.below hbf⟩
  · have hbad : withinB 1 = false ∨ p < 1 ∨ 32 < p ∨ q < 1 ∨ 16 < q := by omega
    have hnew := new_no 1 p q w hbad
    clear hbad
    by_cases h1 : p < 1
    · go_enter Try.func6, Try.ntmps6
      go_wp2_with (first
        | (go_at_call 9; refine hnew.mono ?_; rintro e w1 ⟨rfl, rfl⟩)
        | (go_at_call 11; refine (awake_p _).mono ?_; rintro e wf ⟨rfl, hbf⟩))
      go_ret
      exact ⟨rfl, hbf⟩
    by_cases h2 : 32 < p
    · go_enter Try.func6, Try.ntmps6
      go_wp2_with (first
        | (go_at_call 9; refine hnew.mono ?_; rintro e w1 ⟨rfl, rfl⟩)
        | (go_at_call 11; refine (awake_p _).mono ?_; rintro e wf ⟨rfl, hbf⟩))
      go_ret
      exact ⟨rfl, hbf⟩
    by_cases h3 : q < 1
    · go_enter Try.func6, Try.ntmps6
      go_wp2_with (first
        | (go_at_call 9; refine hnew.mono ?_; rintro e w1 ⟨rfl, rfl⟩)
        | (go_at_call 11; refine (awake_p _).mono ?_; rintro e wf ⟨rfl, hbf⟩))
      go_ret
      exact ⟨rfl, hbf⟩
    have h4 : 16 < q := by omega
    clear hok
    go_enter Try.func6, Try.ntmps6
    go_wp2_with (first
      | (go_at_call 9; refine hnew.mono ?_; rintro e w1 ⟨rfl, rfl⟩)
      | (go_at_call 11; refine (awake_p _).mono ?_; rintro e wf ⟨rfl, hbf⟩))
    go_ret
    exact ⟨rfl, hbf⟩
end Go.Proofs.Ytaofhjckliobpaa
