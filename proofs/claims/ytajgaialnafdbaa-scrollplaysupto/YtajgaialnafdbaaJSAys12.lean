/- The contract of package scroll's read. -/
import Derived.Test.YtajgaialnafdbaaJSAys11
namespace Go.Proofs.Ytajgaialnafdbaa
section
open Go.RowKit

/-- the frame of read: four slots are known -/
def Fr (a : Act) (v0 v3 v4 v7 : Value) : Prop := ∃ u1 u2 u5 u6 u8 u9 u10 u11 u12 u13 u14 u15 u16 u17 u18 u19 u20 u21 u22 u23 u24 u25 u26 u27 u28 u29 u30 u31 u32 u33 u34 u35 u36 u37 u38 u39 u40 u41 u42 u43 u44 u45 u46 u47 u48 u49 u50 u51 u52 u53 u54 u55 u56 u57 u58 u59 u60 u61 u62 u63 u64 u65 u66 u67 : Value, a = { tmps := #[v0, u1, u2, v3, v4, u5, u6, v7, u8, u9, u10, u11, u12, u13, u14, u15, u16, u17, u18, u19, u20, u21, u22, u23, u24, u25, u26, u27, u28, u29, u30, u31, u32, u33, u34, u35, u36, u37, u38, u39, u40, u41, u42, u43, u44, u45, u46, u47, u48, u49, u50, u51, u52, u53, u54, u55, u56, u57, u58, u59, u60, u61, u62, u63, u64, u65, u66, u67], defers := [] }
/-- what stands while a half is read -/
structure Rw (w w' : World) (sb b g G Hh lb : Nat) (s : Dsk) (R : List (List Int)) (u : Nat) (vR : Value) (m : Nat) : Prop where
  dk : IsD w' b g s
  sc : IsS w' sb b G Hh R.length u
  r : OwnR w' w.heap.size m vR R
  o : Only (fun x => x = sb) w w'
  bl : w.heap.size ≤ lb
  bm : w.heap.size ≤ m
  le : m ≤ w'.heap.size
def Lb (w : World) (lb : Nat) (x0 x1 x2 x3 : Int) : Prop := w.heap[lb]? = some (.cells #[.int .i64 x0, .int .i64 x1, .int .i64 x2, .int .i64 x3] 99 (0, 0))
theorem Only.fresh {S T : Nat → Prop} {w w' w'' : World} (h : Only S w w') (k : Only T w' w'') (hT : ∀ x, T x → w.heap.size ≤ x) : Only S w w'' :=
  ⟨k.os.trans h.os, k.tape.trans h.tape, k.output.trans h.output, Nat.le_trans h.size k.size, fun i hi hs => (k.block i (Nat.lt_of_lt_of_le hi h.size) (fun ht => by have := hT i ht; omega)).trans (h.block i hi hs)⟩
theorem Rw.below {w w' w'' : World} {sb b g G Hh lb : Nat} {s : Dsk} {R : List (List Int)} {u : Nat} {vR : Value} {m : Nat} (h : Rw w w' sb b g G Hh lb s R u vR m) (hb : Below w'.heap.size w' w'') : Rw w w'' sb b g G Hh lb s R u vR m :=
  ⟨h.dk.below hb, h.sc.below hb, h.r.below hb, h.o.trans (Only.of hb), h.bl, h.bm, Nat.le_trans h.le hb.size⟩
theorem Rw.lab {w w' w'' : World} {sb b g G Hh lb : Nat} {s : Dsk} {R : List (List Int)} {u : Nat} {vR : Value} {m : Nat} (h : Rw w w' sb b g G Hh lb s R u vR m) (hl : Tag w' lb 99) (ho : Only (fun x => x = lb) w' w'') : Rw w w'' sb b g G Hh lb s R u vR m := by
  have n1 := hl.ne h.dk.tagb (by decide)
  have n2 := hl.ne h.dk.tagg (by decide)
  have n3 := hl.ne h.sc.tag (by decide)
  refine ⟨h.dk.only ho (by omega) (by omega), h.sc.only ho (by omega), h.r.moved (fun k hk => ?_) (fun k _ ht => ?_), h.o.fresh ho (fun x hx => by rw [hx]; exact h.bl), h.bl, h.bm, Nat.le_trans h.le ho.size⟩
  · exact ho.block k (h.r.at hk).2 (fun e => (h.r.tag hk).ne hl (by decide) e)
  · exact ho.block k ht.lt (fun e => ht.ne hl (by decide) e)
theorem Lb.tag {w : World} {lb : Nat} {x0 x1 x2 x3 : Int} (h : Lb w lb x0 x1 x2 x3) : Tag w lb 99 := ⟨_, _, h⟩
theorem Lb.cells {w : World} {lb : Nat} {x0 x1 x2 x3 : Int} (h : Lb w lb x0 x1 x2 x3) : w.cell? ⟨lb, 0, none⟩ = some (.int .i64 x0) ∧ w.cell? ⟨lb, 1, none⟩ = some (.int .i64 x1) ∧ w.cell? ⟨lb, 2, none⟩ = some (.int .i64 x2) ∧ w.cell? ⟨lb, 3, none⟩ = some (.int .i64 x3) ∧ ∀ i, w.frozen? ⟨lb, i, none⟩ = false :=
  ⟨by rw [cell_of h]; rfl, by rw [cell_of h]; rfl, by rw [cell_of h]; rfl, by rw [cell_of h]; rfl, free_of h⟩
theorem Lb.below {w w' : World} {lb : Nat} {x0 x1 x2 x3 : Int} (h : Lb w lb x0 x1 x2 x3) (hb : Below w.heap.size w w') : Lb w' lb x0 x1 x2 x3 := (hb.block lb (Array.getElem?_eq_some_iff.1 h).1).trans h
theorem Lb.all {w : World} {lb : Nat} {x0 x1 x2 x3 : Int} (h : Lb w lb x0 x1 x2 x3) (y0 y1 y2 y3 : Int) : Lb ((((w.setCell ⟨lb, 0, none⟩ (.int .i64 y0)).setCell ⟨lb, 1, none⟩ (.int .i64 y1)).setCell ⟨lb, 2, none⟩ (.int .i64 y2)).setCell ⟨lb, 3, none⟩ (.int .i64 y3)) lb y0 y1 y2 y3 := (heap_set (heap_set (heap_set (heap_set h 0 _) 1 _) 2 _) 3 _).trans rfl
theorem only4 (w : World) (lb : Nat) (y0 y1 y2 y3 : Value) : Only (fun x => x = lb) w ((((w.setCell ⟨lb, 0, none⟩ y0).setCell ⟨lb, 1, none⟩ y1).setCell ⟨lb, 2, none⟩ y2).setCell ⟨lb, 3, none⟩ y3) := (((only1 w lb 0 y0).trans (only1 _ lb 1 y1)).trans (only1 _ lb 2 y2)).trans (only1 _ lb 3 y3)
theorem Lb.drew {w : World} {lb : Nat} {x0 x1 x2 x3 : Int} (h : Lb w lb x0 x1 x2 x3) : Lb w.drew lb x0 x1 x2 x3 := h
theorem Rw.mark {w w' : World} {sb b g G Hh lb : Nat} {s : Dsk} {R : List (List Int)} {u : Nat} {vR : Value} {m : Nat} (h : Rw w w' sb b g G Hh lb s R u vR m) : Rw w w' sb b g G Hh lb s R u vR w'.heap.size :=
  ⟨h.dk, h.sc, h.r.up h.le, h.o, h.bl, Nat.le_trans h.bm h.le, Nat.le_refl _⟩
theorem Rw.bel {w w' w'' : World} {sb b g G Hh lb : Nat} {s : Dsk} {R : List (List Int)} {u : Nat} {vR : Value} {m : Nat} (h : Rw w w' sb b g G Hh lb s R u vR m) (hb : Below m w' w'') (hv : ∀ q, vR.ownBlock = some q → q < m) (h1 : sb < m) (h2 : b < m) (h3 : g < m) : Rw w w'' sb b g G Hh lb s R u vR m :=
  ⟨⟨(hb.block b h2).trans h.dk.head, (hb.block g h3).trans h.dk.body, h.dk.each, h.dk.apart, h.dk.few⟩, h.sc.moved (hb.block sb h1), h.r.moved (fun k hk => hb.block k (hv k hk)) (fun k hk _ => hb.block k hk),
    ⟨hb.os.trans h.o.os, hb.tape.trans h.o.tape, hb.output.trans h.o.output, Nat.le_trans h.o.size hb.size, fun k hk hn => (hb.block k (Nat.lt_of_lt_of_le hk h.bm)).trans (h.o.block k hk hn)⟩, h.bl, h.bm, Nat.le_trans h.le hb.size⟩
theorem Try.infoS : (Try.prog.info? 22).map (fun i => (i.zero, i.size, i.bytes)) = some (some (.slice none 0 0), 1, 24) := by kernel_rfl
theorem Lb.set2 {w : World} {lb : Nat} {x0 x1 x2 x3 : Int} (h : Lb w lb x0 x1 x2 x3) (y : Int) : Lb (w.setCell ⟨lb, 2, none⟩ (.int .i64 y)) lb x0 x1 y x3 := (heap_set h 2 _).trans rfl
theorem Lb.set3 {w : World} {lb : Nat} {x0 x1 x2 x3 : Int} (h : Lb w lb x0 x1 x2 x3) (y : Int) : Lb (w.setCell ⟨lb, 3, none⟩ (.int .i64 y)) lb x0 x1 x2 y := (heap_set h 3 _).trans rfl
theorem Rw.snoc {w w' w9 : World} {sb b g G Hh lb : Nat} {s : Dsk} {R : List (List Int)} {u : Nat} {vR v9 x : Value} {m : Nat} {l : List Int} {vs : List Value} {o : Obj} (h : Rw w w' sb b g G Hh lb s R u vR m) (hO : OwnB w' m x l) (hrow : w'.ownsRow w.heap.size 22 1 vR R.length vs) (hels : Els w' w.heap.size m vs R)
    (hown : w9.ownsRow w.heap.size 22 1 v9 (R.length + 1) (vs ++ [x])) (hgrow : (w'.alloc o).grownBy w9 vR.ownBlock) :
    IsD w9 b g s ∧ IsS w9 sb b G Hh R.length u ∧ OwnR w9 w.heap.size w9.heap.size v9 (R ++ [l]) ∧ Only (fun x => x = sb) w w9 ∧ ∀ k t, Tag w' k t → t ≠ 22 → w9.heap[k]? = w'.heap[k]? := by
  have key : ∀ k t, Tag w' k t → t ≠ 22 → w9.heap[k]? = w'.heap[k]? := fun k t ht hn => by
    have hlt := ht.lt
    rw [hgrow.block k (by simp; omega) (fun e => (Tag.own hrow e.symm).ne ht (fun e => hn e.symm) rfl), Below.heap_alloc _ _ _ hlt]
  have hsz : w'.heap.size ≤ w9.heap.size := by have := hgrow.size; simp at this; omega
  refine ⟨⟨(key b _ h.dk.tagb (by decide)).trans h.dk.head, (key g _ h.dk.tagg (by decide)).trans h.dk.body, h.dk.each, h.dk.apart, h.dk.few⟩, h.sc.moved (key sb _ h.sc.tag (by decide)), ?_, ?_, key⟩
  · exact OwnR.snoc hels hO h.bm (fun k hk => Nat.lt_of_lt_of_le (hO.at k hk).2 hsz) (Nat.le_trans h.le hsz) hown (fun k ht => key k _ ht (by decide))
  · refine h.o.fresh (T := fun x => vR.ownBlock = some x) (w' := w') ⟨by rw [hgrow.os]; rfl, by rw [hgrow.tape]; rfl, by rw [hgrow.output]; rfl, hsz, fun k hk hn => ?_⟩ (fun x hx => (h.r.at hx).1)
    rw [hgrow.block k (by simp; omega) (fun e => hn e.symm), Below.heap_alloc _ _ _ hk]
theorem Rw.kept {w w9 w10 : World} {sb b g G Hh lb : Nat} {s : Dsk} {R : List (List Int)} {u u' n' : Nat} {v9 : Value} (hd : IsD w9 b g s) (hs9 : IsS w9 sb b G Hh n' u) (hr : OwnR w9 w.heap.size w9.heap.size v9 R) (ho : Only (fun x => x = sb) w w9) (hbl : w.heap.size ≤ lb) (hs : IsS w10 sb b G Hh R.length u') (hO : Only (· = sb) w9 w10) : Rw w w10 sb b g G Hh lb s R u' v9 w10.heap.size :=
  ⟨hd.only hO (fun e => (hs9.ne hd).1 e.symm) (fun e => (hs9.ne hd).2 e.symm), hs, (hr.moved (fun k hk => hO.block k (hr.at hk).2 (fun e => (hr.tag hk).ne hs9.tag (by decide) e)) (fun k _ ht => hO.block k ht.lt (fun e => ht.ne hs9.tag (by decide) e))).up hO.size, ho.trans hO, hbl, Nat.le_trans ho.size hO.size, Nat.le_refl _⟩
def Jr (w : World) (sb b g G Hh lb : Nat) (s : Dsk) (l n : Nat) (a : Act) (w' : World) : Prop :=
  match l with
  | 0 => ∃ vR R u m v4, Fr a (.pointer (some ⟨sb, 0, none⟩)) vR v4 (.pointer (some ⟨lb, 0, none⟩)) ∧ Rw w w' sb b g G Hh lb s R u vR m ∧ Pre G (halfL s.cs Hh) R u ∧ (∃ x0 x1 x2 x3, Lb w' lb x0 x1 x2 x3) ∧ n = hS s.cs - u + 1
  | 1 => ∃ vR R u m v4, Fr a (.pointer (some ⟨sb, 0, none⟩)) vR v4 (.pointer (some ⟨lb, 0, none⟩)) ∧ Rw w w' sb b g G Hh lb s R u vR m ∧ Told G (halfL s.cs Hh) R u
  | _ => ∃ vR R u m v4 k c p, Fr a (.pointer (some ⟨sb, 0, none⟩)) vR v4 (.pointer (some ⟨lb, 0, none⟩)) ∧ Rw w w' sb b g G Hh lb s R u vR m ∧ Pre G (halfL s.cs Hh) R u ∧ Lb w' lb (G : Nat) (R.length : Nat) (k : Nat) (c : Nat) ∧ Part G (halfL s.cs Hh) R.length u k c p ∧ OwnB w' m v4 p ∧ u + k ≤ hS s.cs ∧ n = hS s.cs - (u + k) + 1 ∧ lb < m ∧ ∀ q, vR.ownBlock = some q → q < m
set_option maxRecDepth 100000 in
set_option maxHeartbeats 8000000 in
theorem read_any' (sb b G Hh g : Nat) (s : Dsk) (w : World) (hs : IsS w sb b G Hh 0 0) (h : IsD w b g s) (h1 : 1 ≤ s.cs.length) (hb : BytC s.cs) (hG : G < 4294967296) (hh : Hh ≤ 1) :
    Calls Try.prog 54 #[.pointer (some ⟨sb, 0, none⟩)] w fun e w' => ∃ vR R u, e = .returned vR ∧ Told G (halfL s.cs Hh) R u ∧ IsD w' b g s ∧ IsS w' sb b G Hh R.length u ∧ OwnR w' w.heap.size w'.heap.size vR R ∧ Only (fun x => x = sb) w w' := by
  go_enter Try.func54, Try.ntmps54
  go_wp2
  refine wp_scope_three (Jr w sb b g G Hh w.heap.size s) rfl rfl rfl ?_ ?_ ?_ ?_
  · intro M n a w' hJ
    obtain ⟨vR, R, u, m, v4, ⟨u1, u2, u5, u6, u8, u9, u10, u11, u12, u13, u14, u15, u16, u17, u18, u19, u20, u21, u22, u23, u24, u25, u26, u27, u28, u29, u30, u31, u32, u33, u34, u35, u36, u37, u38, u39, u40, u41, u42, u43, u44, u45, u46, u47, u48, u49, u50, u51, u52, u53, u54, u55, u56, u57, u58, u59, u60, u61, u62, u63, u64, u65, u66, u67, rfl⟩, hR, hT⟩ := hJ
    have HR : Hid (Rw w w' sb b g G Hh w.heap.size s R u vR m ∧ Told G (halfL s.cs Hh) R u) := ⟨hR, hT⟩
    clear hR hT
    go_wp2
    refine JumpM.ret ?_
    go_ret
    exact ⟨vR, R, u, rfl, HR.out.2, HR.out.1.dk, HR.out.1.sc, HR.out.1.r.up HR.out.1.le, HR.out.1.o⟩
  · intro M n a w' hJ hn
    obtain ⟨vR, R, u, m, vr, k, c, p, ⟨u1, u2, u5, u6, u8, u9, u10, u11, u12, u13, u14, u15, u16, u17, u18, u19, u20, u21, u22, u23, u24, u25, u26, u27, u28, u29, u30, u31, u32, u33, u34, u35, u36, u37, u38, u39, u40, u41, u42, u43, u44, u45, u46, u47, u48, u49, u50, u51, u52, u53, u54, u55, u56, u57, u58, u59, u60, u61, u62, u63, u64, u65, u66, u67, rfl⟩, hR, hP, hL, hPt, hO, hle, hn', hlm, hvm⟩ := hJ
    have hSS := hS_lt h.few
    have hlen := halfL_len s.cs Hh hh
    have hB1 : sb < w.heap.size ∧ b < w.heap.size ∧ g < w.heap.size := ⟨hs.lt, h.lb, h.lg⟩
    obtain ⟨N, hN⟩ : ∃ N, hS s.cs = N := ⟨_, rfl⟩
    have hru := hP.le
    rw [hlen, hN] at hru
    rw [hN] at hle hn' hSS hlen
    obtain ⟨c0, c1, c2, c3, c4, cf⟩ := hR.sc.cells
    obtain ⟨l0, l1, l2, l3, lf⟩ := hL.cells
    have HR : Hid (Rw w w' sb b g G Hh w.heap.size s R u vR m ∧ Pre G (halfL s.cs Hh) R u ∧ Lb w' w.heap.size (G : Nat) (R.length : Nat) (k : Nat) (c : Nat) ∧ Part G (halfL s.cs Hh) R.length u k c p ∧ OwnB w' m vr p ∧ w.heap.size < m ∧ (∀ q, vR.ownBlock = some q → q < m) ∧ BytC s.cs ∧ hS s.cs = N) := ⟨hR, hP, hL, hPt, hO, hlm, hvm, hb, hN⟩
    have HRm : Hid (∀ w'', Same w' w'' → Calls Try.prog 21 #[.pointer (some ⟨sb, 0, none⟩)] w'' fun e w2 => e = .returned (.int .i64 (N - u : Nat)) ∧ Same w' w2) := fun w'' hw => by
      have := room_any sb b G Hh R.length u g s w'' (hR.sc.below hw.below) (hR.dk.below hw.below) h1 (by omega)
      rw [hN] at this
      exact this.mono fun e w2 hq => ⟨hq.1, hw.trans hq.2⟩
    have HPl : Hid (∀ w'', Below w'.heap.size w' w'' → Calls Try.prog 57 #[.pointer (some ⟨sb, 0, none⟩), .int .i64 (k : Nat)] w'' fun e w2 => e = .returned (.int .i64 (1 + Hh * N + u + k : Nat)) ∧ Below w'.heap.size w' w2) := fun w'' hw => by
      have := place_s sb b G Hh R.length u g s k w'' (hR.sc.below hw) (hR.dk.below hw) h1 (by omega) hh (by omega)
      rw [hN] at this
      exact this.mono fun e w2 hq => ⟨hq.1, chainB hw hq.2.below⟩
    have HI : Hid (IsS w sb b G Hh 0 0 ∧ IsD w b g s) := ⟨hs, h⟩
    obtain ⟨rl, hrl⟩ : ∃ rl, R.length = rl := ⟨_, rfl⟩
    rw [hrl] at c3 l1 hru
    have HRL : Hid (R.length = rl) := hrl
    have k0 : w'.drew.cell? ⟨w.heap.size, 2, none⟩ = some (.int .i64 (k : Nat)) ∧ Same w' w'.drew := ⟨l2, ⟨rfl, rfl, rfl, rfl⟩⟩
    clear hR hP hL hPt hO hlm hvm hb hs h hN hlen hrl
    go_upto_region 5 with fail
    go_region_held3 (fun w'' => w''.cell? ⟨w.heap.size, 2, none⟩ = some (.int .i64 (k : Nat)) ∧ Same w' w'')
      (with_reducible first | exact k0 | exact k1)
      (first | (go_at_call 21; refine (HRm.out _ k0.2).mono ?_; rintro e w1 ⟨rfl, hs1⟩; have k1 : w1.cell? ⟨w.heap.size, 2, none⟩ = some (.int .i64 (k : Nat)) ∧ Same w' w1 := ⟨(World.cell?_of_block (by rw [hs1.1])).trans l2, hs1⟩))
    clear k0 HRm
    by_cases hend : u + k = N
    · have he : ((k : Int) == ((N - u : Nat) : Int)) = true := by rw [beq_iff_eq]; omega
      clear k1
      go_wp2
      apply wp_goto
      refine ⟨(by decide : 1 < 3), 0, by omega, ?_⟩
      exact ⟨vR, R, u, m, _, ⟨_, _, _, _, _, _, _, _, _, _, _, _, _, _, _, _, _, _, _, _, _, _, _, _, _, _, _, _, _, _, _, _, _, _, _, _, _, _, _, _, _, _, _, _, _, _, _, _, _, _, _, _, _, _, _, _, _, _, _, _, _, _, _, _, rfl⟩, HR.out.1.below hs1.below, HR.out.2.1, HR.out.2.2.2.1.stop (List.getElem?_eq_none (by rw [halfL_len _ _ hh, HR.out.2.2.2.2.2.2.2.2]; omega))⟩
    have he : ((k : Int) == ((N - u : Nat) : Int)) = false := by rw [beq_eq_false_iff_ne]; omega
    have hlt : u + k < N := by omega
    obtain ⟨bb, hb1, hb2, hb3, hb4⟩ : ∃ bb, (halfL s.cs Hh)[u + k]? = some bb ∧ s.cs[1 + Hh * N + u + k]? = some bb ∧ Byt bb ∧ bb.length = 64 := by
      have hf := half_fits s.cs Hh (u + k) hh (by rw [HR.out.2.2.2.2.2.2.2.2]; omega)
      rw [HR.out.2.2.2.2.2.2.2.2] at hf
      have e2 : s.cs[1 + Hh * N + u + k]? = some (s.cs[1 + Hh * N + (u + k)]'hf) := by rw [Nat.add_assoc (1 + Hh * N)]; exact List.getElem?_eq_getElem hf
      refine ⟨_, ?_, e2, HR.out.2.2.2.2.2.2.2.1 _ (List.getElem_mem hf), HR.out.1.dk.each _ (List.getElem_mem hf)⟩
      rw [halfL_get, HR.out.2.2.2.2.2.2.2.2, if_pos (by omega), List.getElem?_eq_getElem hf]
    have HB : Hid ((halfL s.cs Hh)[u + k]? = some bb ∧ Byt bb ∧ bb.length = 64) := ⟨hb1, hb3, hb4⟩
    have HRd : Hid (∀ w'', Below w'.heap.size w' w'' → Calls Try.prog 30 #[.pointer (some ⟨b, 0, none⟩), .int .i64 (1 + Hh * N + u + k : Nat)] w'' fun e w3 => ∃ q cap, e = .returned (.tuple #[.slice (some ⟨q, 0, none⟩) 64 cap, .int .i64 0]) ∧ 64 ≤ cap ∧ RB w3 (.slice (some ⟨q, 0, none⟩) 64 cap) bb ∧ Tag w3 q 5 ∧ Below w'.heap.size w' w3) := fun w'' hw => (read_at b g s _ bb hb2 w'' (HR.out.1.dk.below hw)).mono fun e w3 ⟨q, cap, e1, e2, e3, e4, e5⟩ => ⟨q, cap, e1, e2, e3.rb, e3.tag rfl, chainB hw e5⟩
    have HK : Hid (∀ w'', Below w'.heap.size w' w'' → w''.cell? ⟨sb, 0, none⟩ = some (.pointer (some ⟨b, 0, none⟩)) ∧ w''.cell? ⟨w.heap.size, 2, none⟩ = some (.int .i64 (k : Nat)) ∧ Below w'.heap.size w' w'') := fun w'' hw => ⟨(HR.out.1.sc.below hw).cells.1, (HR.out.2.2.1.below hw).cells.2.2.1, hw⟩
    have k2 := HK.out w1.drew (hs1.below.drew)
    clear hb1 hb2 hb3 hb4 k1 c0 c1 c2 c3 c4 cf l0 l1 l2 l3 lf
    go_upto_region 6 with fail
    go_region_held3 (fun w'' => w''.cell? ⟨sb, 0, none⟩ = some (.pointer (some ⟨b, 0, none⟩)) ∧ w''.cell? ⟨w.heap.size, 2, none⟩ = some (.int .i64 (k : Nat)) ∧ Below w'.heap.size w' w'')
      (with_reducible first | exact k2 | exact k3 | exact k4)
      (first
        | (go_at_call 57; refine (HPl.out _ k2.2.2).mono ?_; rintro e w2 ⟨rfl, hbw2⟩; have k3 := HK.out w2 hbw2)
        | (go_at_call 30; refine (HRd.out _ hbw2).mono ?_; rintro e w3 ⟨q, cap, rfl, hcap, hr3, ht3, hbw3⟩; have k4 := HK.out w3 hbw3))
    have HR3 : Hid (Rw w w3 sb b g G Hh w.heap.size s R u vR m ∧ OwnB w3 m vr p ∧ RB w3 (.slice (some ⟨q, 0, none⟩) 64 cap) bb ∧ Tag w3 q 5 ∧ 64 ≤ cap) := ⟨HR.out.1.below hbw3, OwnB.below HR.out.2.2.2.2.1 hbw3, hr3, ht3, hcap⟩
    have hL3 := HR.out.2.2.1.below hbw3
    obtain ⟨l0, l1, l2, l3, lf⟩ := hL3.cells
    rw [HRL.out] at l1
    have HL3 : Hid (Lb w3 w.heap.size (G : Nat) (R.length : Nat) (k : Nat) (c : Nat)) := hL3
    clear HPl HRd HK k2 k3 k4 hbw2 hbw3 hr3 ht3 hL3 hs1 hcap
    obtain ⟨C, hC⟩ : ∃ C, cnt k c bb = C := ⟨_, rfl⟩
    have HC : Hid (cnt k c bb = C) := hC
    clear hC
    go_upto_if 37 with fail
    go_cut [41] from 37 to 40 (fun x wx => x = u41 ∧ Lb wx w.heap.size (G : Nat) (R.length : Nat) (k : Nat) (C : Nat) ∧ Only (fun x => x = w.heap.size) w3 wx)
    case first =>
      by_cases hk0 : k = 0
      · have hCg : gB bb 9 = C := by rw [← HC.out]; unfold cnt; rw [if_pos hk0]
        have HCn : Hid (Calls Try.prog 70 #[.slice (some ⟨q, 0, none⟩) 64 cap] w3 fun e w' => e = .returned (.int .i64 (C : Nat)) ∧ w' = w3) := by
          have := countIn_any _ bb w3 HR3.out.2.2.1 HB.out.2.1 HB.out.2.2; rw [hCg] at this; exact this
        have hk2 : ((k : Int) == 0) = true := by rw [beq_iff_eq]; omega
        clear hk0 hCg
        go_wp2_with (go_at_call 70; refine HCn.out.mono ?_; rintro e w4 ⟨rfl, rfl⟩)
        go_meet
        exact ⟨rfl, HL3.out.set3 _, only1 _ _ _ _⟩
      · have hCg : c = C := by rw [← HC.out]; unfold cnt; rw [if_neg hk0]
        have hk2 : ((k : Int) == 0) = false := by rw [beq_eq_false_iff_ne]; omega
        have HCg : Hid (c = C) := hCg
        clear hk0 hCg
        go_wp2
        go_meet
        exact ⟨rfl, by rw [← HCg.out]; exact HL3.out, Only.refl _ _⟩
    case rest =>
      obtain ⟨rfl, hLc, hOc⟩ := hcut
      have hRc := HR3.out.1.lab HL3.out.tag hOc
      have hOw : OwnB wc m vr p := HR3.out.2.1.moved fun q hq => hOc.block q (HR3.out.2.1.tag hq).lt (fun e => (HR3.out.2.1.tag hq).ne HL3.out.tag (by decide) e)
      have hRb : RB wc (.slice (some ⟨q, 0, none⟩) 64 cap) bb := RB.only HR3.out.2.2.1 hOc (fun a n c e => by cases e; exact fun e => HR3.out.2.2.2.1.ne HL3.out.tag (by decide) e)
      obtain ⟨l0, l1, l2, l3, lf⟩ := hLc.cells
      rw [HRL.out] at l1
      have HPc : Hid (Calls Try.prog 71 #[.agg #[.int .i64 (G : Nat), .int .i64 (rl : Nat), .int .i64 (k : Nat), .int .i64 (C : Nat)], .slice (some ⟨q, 0, none⟩) 64 cap] wc fun e w' => ∃ a6 c6, e = .returned (.slice a6 (pcIn G rl k C bb).length c6) ∧ RB w' (.slice a6 (pcIn G rl k C bb).length c6) (pcIn G rl k C bb) ∧ Below wc.heap.size wc w') := (pieceIn_any G rl k C _ bb wc hG (by omega) hRb ⟨_, _, _, rfl, HR3.out.2.2.2.2⟩ HB.out.2.1 HB.out.2.2).mono fun e w' ⟨v', e1, e2, e3⟩ => by
        obtain ⟨a6, c6, rfl, _⟩ := id e2
        exact ⟨a6, c6, e1, e2, e3⟩
      have HRc : Hid (Rw w wc sb b g G Hh w.heap.size s R u vR m ∧ OwnB wc m vr p ∧ Lb wc w.heap.size (G : Nat) (R.length : Nat) (k : Nat) (C : Nat)) := ⟨hRc, hOw, hLc⟩
      obtain ⟨pc, hpc⟩ : ∃ pc, pcIn G rl k C bb = pc := ⟨_, rfl⟩
      have hpl : pc.length ≤ 53 := by rw [← hpc]; exact pcIn_len
      rw [hpc] at HPc
      have HP : Hid (pcIn G R.length k (cnt k c bb) bb = pc) := by rw [HRL.out, HC.out]; exact hpc
      clear hRc hOw hRb hLc hOc hpc HL3 HR3 he hend
      by_cases hp0 : pc = []
      · subst hp0
        go_wp2_with (go_at_call 71; refine HPc.out.mono ?_; rintro e w6 ⟨a6, c6, rfl, hr6, hb6⟩)
        apply wp_goto
        refine ⟨(by decide : 1 < 3), 0, by omega, ?_⟩
        exact ⟨vR, R, u, m, _, ⟨_, _, _, _, _, _, _, _, _, _, _, _, _, _, _, _, _, _, _, _, _, _, _, _, _, _, _, _, _, _, _, _, _, _, _, _, _, _, _, _, _, _, _, _, _, _, _, _, _, _, _, _, _, _, _, _, _, _, _, _, _, _, _, _, rfl⟩, HRc.out.1.below hb6, HR.out.2.1, HR.out.2.2.2.1.none HB.out.1 HP.out⟩
      · have hpl1 : 1 ≤ pc.length := by
          cases hq : pc with
          | nil => exact absurd hq hp0
          | cons x y => simp
        have hpz : ((pc.length : Int) == 0) = false := by rw [beq_eq_false_iff_ne]; omega
        have HN : Hid (pc ≠ [] ∧ p.length ≤ 53 * k ∧ k < C ∧ C ≤ 8) := by
          have h1 := HR.out.2.2.2.1.lt (b := bb) (by rw [HP.out]; exact hp0)
          have h2 := pcIn_c (g := G) (r := R.length) (k := k) (c := cnt k c bb) (b := bb) (by rw [HP.out]; exact hp0)
          rw [HC.out] at h1 h2
          exact ⟨hp0, HR.out.2.2.2.1.len, h1, h2.2⟩
        have hkC : k < C ∧ C ≤ 8 := HN.out.2.2
        clear hp0
        go_upto_region 13 with (first
          | (go_at_call 71; refine HPc.out.mono ?_; rintro e w6 ⟨a6, c6, rfl, hr6, hb6⟩; have hO6 := OwnB.below HRc.out.2.1 hb6; have hle6 : m ≤ w6.heap.size := Nat.le_trans HRc.out.1.le hb6.size)
          | (at_builtin; refine wpList_appB rfl _ _ rfl m _ p rfl hO6 _ pc rfl hr6 (by have := HN.out.2.1; omega) hle6 ?_; intro v7 w7 hO7 hb7 _; have hL7 : Lb w7 w.heap.size (G : Nat) (R.length : Nat) (k : Nat) (C : Nat) := (hb7.block _ HR.out.2.2.2.2.2.1).trans (HRc.out.2.2.below hb6); obtain ⟨d0, d1, d2, d3, df⟩ := hL7.cells))
        obtain ⟨W8, hW8⟩ : ∃ W, w7.setCell ⟨w.heap.size, 2, none⟩ (.int .i64 ((k : Int) + 1)) = W := ⟨_, rfl⟩
        have hL8 : Lb W8 w.heap.size (G : Nat) (R.length : Nat) (k + 1 : Nat) (C : Nat) := by rw [← hW8, Int.natCast_add]; exact hL7.set2 _
        have hR8 : Rw w W8 sb b g G Hh w.heap.size s R u vR m := by
          have hm := HR.out.2.2.2.2.2.1
          rw [← hW8]; exact ((HRc.out.1.below hb6).bel hb7 HR.out.2.2.2.2.2.2.1 (by omega) (by omega) (by omega)).lab hL7.tag (only1 _ _ _ _)
        have hO8 : OwnB W8 m v7 (p ++ pc) := by rw [← hW8]; exact hO7.moved fun q hq => heap_set_ne (fun e => (hO7.tag hq).ne hL7.tag (by decide) e)
        obtain ⟨a7, c7, e7⟩ := owns_len hO8
        subst e7
        have HR8 : Hid (Rw w W8 sb b g G Hh w.heap.size s R u vR m ∧ OwnB W8 m (.slice a7 (p ++ pc).length c7) (p ++ pc) ∧ Lb W8 w.heap.size (G : Nat) (R.length : Nat) (k + 1 : Nat) (C : Nat)) := ⟨hR8, hO8, hL8⟩
        obtain ⟨e0, e1, e2, e3, ef⟩ := hL8.cells
        rw [HRL.out] at e1
        rw [Int.natCast_add] at e2
        have e2 : W8.cell? ⟨w.heap.size, 2, none⟩ = some (.int .i64 ((k : Int) + 1)) := e2
        obtain ⟨pl, hpl2⟩ : ∃ pl, (p ++ pc).length = pl := ⟨_, rfl⟩
        have HPL : Hid ((p ++ pc).length = pl) := hpl2
        rw [hW8, hpl2]
        clear hW8 hL8 hR8 hO8 hL7 hO7 hO6 hb6 hb7 hr6 d0 d1 d2 d3 df HPc HRc hpl2 l0 l1 l2 l3 lf hle6
        by_cases hmore : k + 1 < C
        · have hd : decide ((k : Int) + 1 < (C : Int)) = true := decide_eq_true (by omega)
          go_wp2
          apply wp_goto
          refine ⟨(by decide : 2 < 3), N - (u + (k + 1)) + 1, by omega, ?_⟩
          refine ⟨vR, R, u, m, .slice a7 pl c7, k + 1, C, p ++ pc, ⟨_, _, _, _, _, _, _, _, _, _, _, _, _, _, _, _, _, _, _, _, _, _, _, _, _, _, _, _, _, _, _, _, _, _, _, _, _, _, _, _, _, _, _, _, _, _, _, _, _, _, _, _, _, _, _, _, _, _, _, _, _, _, _, _, rfl⟩, HR8.out.1, HR.out.2.1, HR8.out.2.2, ?_, ?_, ?_, ?_, HR.out.2.2.2.2.2.1, HR.out.2.2.2.2.2.2.1⟩
          · have := HR.out.2.2.2.1.more HB.out.1 (by rw [HP.out]; exact HN.out.1) (by rw [HC.out]; exact hmore)
            rw [HP.out, HC.out] at this; exact this
          · have := HR8.out.2.1; rw [HPL.out] at this; exact this
          · rw [HR.out.2.2.2.2.2.2.2.2]; omega
          · rw [HR.out.2.2.2.2.2.2.2.2]
        · have hd : decide ((k : Int) + 1 < (C : Int)) = false := decide_eq_false (by omega)
          have hdone := HR.out.2.2.2.1.done HB.out.1 (by rw [HP.out]; exact HN.out.1) (by rw [HC.out]; exact hmore)
          rw [HP.out, HC.out] at hdone
          have hPre := HR.out.2.1.snoc hdone.1
          have HD : Hid (Pre G (halfL s.cs Hh) (R ++ [p ++ pc]) (u + C) ∧ C = k + 1) := ⟨hPre, hdone.2⟩
          obtain ⟨vs, hrow, hels⟩ := HR8.out.1.r
          have HV : Hid (W8.ownsRow w.heap.size 22 1 vR R.length vs ∧ Els W8 w.heap.size m vs R) := ⟨hrow, hels⟩
          have hszW : w.heap.size < W8.heap.size := HR8.out.2.2.tag.lt
          obtain ⟨i1, hi1, hw0, hw1, hw2⟩ := info_parts Try.infoS
          clear hdone hPre hrow hels hmore
          go_wp2_with (first
            | (at_builtin; refine wpList_append_own_at _ rfl _ _ 41 rfl w.heap.size 22 i1 (.slice none 0 0) 1 24 Try.underlying41 hi1 hw0 hw1 hw2 rfl (by decide) _ R.length vs rfl (World.ownsRow.alloc HV.out.1 _) ⟨W8.heap.size, 0, none⟩ 1 1 [.slice a7 pl c7] rfl rfl (one_at _ _ _) (one_cell _ rfl) (by have := HRL.out; unfold maxLen; omega) (by have := HRL.out; omega) (by simp; omega) ?_; intro v9 w9 hown9 hgrow9 _ _; have h9 := HR8.out.1.snoc HR8.out.2.1 HV.out.1 HV.out.2 (by rw [HPL.out]; exact hown9) hgrow9; have hL9 : Lb w9 w.heap.size (G : Nat) (R.length : Nat) (k + 1 : Nat) (C : Nat) := (h9.2.2.2.2 _ _ HR8.out.2.2.tag (by decide)).trans HR8.out.2.2; have f3 := hL9.cells.2.2.2.1)
            | (go_at_call 60; refine (keep_any sb b G Hh R.length u C _ h9.2.1 (by have := HRL.out; omega) (by omega) (by omega)).mono ?_; rintro e w10 ⟨rfl, hs10, hO10⟩))
          apply wp_goto
          refine ⟨(by decide : 0 < 3), N - (u + C) + 1, by have := HD.out.2; omega, ?_⟩
          refine ⟨v9, R ++ [p ++ pc], u + C, _, _, ⟨_, _, _, _, _, _, _, _, _, _, _, _, _, _, _, _, _, _, _, _, _, _, _, _, _, _, _, _, _, _, _, _, _, _, _, _, _, _, _, _, _, _, _, _, _, _, _, _, _, _, _, _, _, _, _, _, _, _, _, _, _, _, _, _, rfl⟩, Rw.kept h9.1 h9.2.1 h9.2.2.1 h9.2.2.2.1 (Nat.le_refl _) (by rw [List.length_append, List.length_singleton]; exact hs10) hO10, HD.out.1, ⟨_, _, _, _, (hO10.block _ hL9.tag.lt (fun e => hL9.tag.ne h9.2.1.tag (by decide) e)).trans hL9⟩, by rw [HR.out.2.2.2.2.2.2.2.2]⟩
  · intro p2 M n a w' hJ hn
    obtain ⟨vR, R, u, m, v4, ⟨u1, u2, u5, u6, u8, u9, u10, u11, u12, u13, u14, u15, u16, u17, u18, u19, u20, u21, u22, u23, u24, u25, u26, u27, u28, u29, u30, u31, u32, u33, u34, u35, u36, u37, u38, u39, u40, u41, u42, u43, u44, u45, u46, u47, u48, u49, u50, u51, u52, u53, u54, u55, u56, u57, u58, u59, u60, u61, u62, u63, u64, u65, u66, u67, rfl⟩, hR, hP, ⟨x0, x1, x2, x3, hL⟩, hn'⟩ := hJ
    obtain ⟨c0, c1, c2, c3, c4, cf⟩ := hR.sc.cells
    have l0 : w'.cell? ⟨w.heap.size, 0, none⟩ = some (.int .i64 x0) := by rw [cell_of hL]; rfl
    have l1 : w'.cell? ⟨w.heap.size, 1, none⟩ = some (.int .i64 x1) := by rw [cell_of hL]; rfl
    have l2 : w'.cell? ⟨w.heap.size, 2, none⟩ = some (.int .i64 x2) := by rw [cell_of hL]; rfl
    have l3 : w'.cell? ⟨w.heap.size, 3, none⟩ = some (.int .i64 x3) := by rw [cell_of hL]; rfl
    have lf := free_of hL
    have HR : Hid (Rw w w' sb b g G Hh w.heap.size s R u vR m ∧ Pre G (halfL s.cs Hh) R u ∧ Lb w' w.heap.size x0 x1 x2 x3) := ⟨hR, hP, hL⟩
    clear hR hP hL
    go_upto_region 4 with fail
    go_region
    all_goals
      rename_i K hK
      refine hK _ _ (wp_label_seq ?_)
      refine p2 M (hS s.cs - (u + 0) + 1) _ _ ?_ (by omega)
      refine ⟨vR, R, u, _, _, 0, 0, [], ⟨_, _, _, _, _, _, _, _, _, _, _, _, _, _, _, _, _, _, _, _, _, _, _, _, _, _, _, _, _, _, _, _, _, _, _, _, _, _, _, _, _, _, _, _, _, _, _, _, _, _, _, _, _, _, _, _, _, _, _, _, _, _, _, _, rfl⟩, ((HR.out.1.lab HR.out.2.2.tag (only4 _ _ _ _ _ _)).below (Below.refl _ _).drew).mark, HR.out.2.1, (HR.out.2.2.all _ _ _ _).drew, Part.start _ _ _ _, OwnB.nil _ _, ?_, rfl, ?_, ?_⟩
      · have := HR.out.2.1.le.1
        rw [halfL_len _ _ hh] at this
        omega
      · have := HR.out.2.2.tag.lt
        simpa using this
      · intro q hq
        have := (HR.out.1.r.at hq).2
        simpa using this
  · intro p0
    have HI : Hid (IsS w sb b G Hh 0 0 ∧ IsD w b g s) := ⟨hs, h⟩
    clear hs h
    refine ⟨hS s.cs - 0 + 1, ?_⟩
    go_upto_region 4 with fail
    apply wp_label
    rename_i K hK
    refine hK _ _ ?_
    refine p0 _ (hS s.cs - 0 + 1) _ _ ?_ (Nat.le_refl _)
    exact ⟨_, [], 0, w.heap.size, _, ⟨_, _, _, _, _, _, _, _, _, _, _, _, _, _, _, _, _, _, _, _, _, _, _, _, _, _, _, _, _, _, _, _, _, _, _, _, _, _, _, _, _, _, _, _, _, _, _, _, _, _, _, _, _, _, _, _, _, _, _, _, _, _, _, _, rfl⟩, ⟨HI.out.2.below (below_alloc _ _), HI.out.1.below (below_alloc _ _), OwnR.nil _ _ _, Only.of (below_alloc _ _), Nat.le_refl _, Nat.le_refl _, by simp⟩, .nil, ⟨0, 0, 0, 0, heap_new _ _⟩, rfl⟩
end
end Go.Proofs.Ytajgaialnafdbaa
