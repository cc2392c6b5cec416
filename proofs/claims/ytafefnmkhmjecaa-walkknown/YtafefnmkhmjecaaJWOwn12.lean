/- Cut. -/
import Derived.Test.YtafefnmkhmjecaaJWOwn10
import Derived.Deep.LoopGhost
namespace Go.Proofs.Ytafefnmkhmjecaa
section
open Go.RowKit
attribute [local go_sem ↓ high] loadEn storeEn loadCa storeCa buildCa
attribute [local go_sem high] eqMN

/-- a list that reads as these keys; G: where it does not lie -/
def RdK (w : World) (v : Value) (ks : List Ky) (G : Nat → Prop) : Prop := ∃ a cap, v = .slice a ks.length cap ∧ ∀ (j : Nat) (k : Ky), ks[j]? = some k → ∃ g o, a = some ⟨g, o, none⟩ ∧ w.cell? ⟨g, o + j * 2, none⟩ = some (.int .i64 k.d) ∧ w.cell? ⟨g, o + j * 2 + 1, none⟩ = some (.string k.nm) ∧ ¬ G g
theorem RowK.rd {w : World} {base : Nat} {v : Value} {ks : List Ky} (h : RowK w base v ks) {G : Nat → Prop} (hG : ∀ g, v.ownBlock = some g → ¬ G g) : RdK w v ks G := by
  obtain ⟨a, cap, rfl⟩ := owns_len h
  refine ⟨a, cap, rfl, fun j k hk => ?_⟩
  obtain ⟨g, rfl, _, _, k0, k1, _⟩ := h.key hk
  exact ⟨g, 0, rfl, by rw [Nat.zero_add]; exact k0, by rw [Nat.zero_add]; exact k1, hG g rfl⟩
theorem delO_mid {w : World} {p : Nat} {c : Pc} (h : IsC w p c) (d : Int) : ∃ W c', (∀ ty, (Builtin.delete_ #[68, 3] ty #[.map (some c.g0), .int .i64 d]).run Try.prog w = .ok (.tuple #[]) W) ∧ Aft w W p c c' ∧ Cutt c c' (fun e => decide (e.d ≠ d)) := by
  obtain ⟨V, hr, hm, hO, -⟩ := delM kI undO 0 w (some c.g0) (om2 c.om) h.outer d
  exact ⟨V, _, fun ty => hr, h.delO hm (hO.mono fun q e => by cases e; rfl), cutt_dir h d⟩
theorem hit_all {k : Ky} (h : k.nm = nob) : (fun e => !hitK k e) = fun e : En => decide (e.d ≠ k.d) := by
  funext e
  unfold hitK
  rw [decide_eq_true h, Bool.true_or, Bool.and_true]
  by_cases h1 : e.d = k.d <;> simp [h1]
theorem hit_one {k : Ky} (h : k.nm ≠ nob) : (fun e => !hitK k e) = fun e : En => !hasK k e := by
  funext e
  unfold hitK hasK
  rw [decide_eq_false h, Bool.false_or]
theorem cut_snoc (s : Cs) (ks : List Ky) (j : Nat) (k : Ky) (h : ks[j]? = some k) : s.cut (ks.take (j + 1)) = (s.cut (ks.take j)).cut1 k := by
  unfold Cs.cut
  rw [List.take_add_one, h, List.foldl_append]; rfl
theorem nm_test {nm : ByteArray} (h : nm ≠ nob) : (nm.toList == []) = false := by
  cases hh : (nm.toList == []) with
  | false => rfl
  | true =>
    have h0 : nm.toList = [] := eq_of_beq hh
    exact absurd (bytes_eq.1 (h0.trans nob_list.symm)) h
/-- the end of a round: the directory is not whole any more -/
theorem cut_end {w W W1 : World} {p b : Nat} {c c1 : Pc} {s1 : Cs} {d : Int} (a : Aft w W p c c1) (hb : W.cell? ⟨b, 0, none⟩ = some (.int .i64 d)) (hnb : ¬ c1.blk p b) (hs : Says c1 s1) (hW : W = W1) : ∃ V, (∀ ty, (Builtin.delete_ #[69, 3] ty #[.map (some c1.g1), .int .i64 d]).run Try.prog W1.drew = .ok (.tuple #[]) V) ∧ (W1.drew.cell? ⟨p, 1, none⟩ = some (.map (some c1.g1)) ∧ W1.drew.cell? ⟨b, 0, none⟩ = some (.int .i64 d)) ∧ (V.cell? ⟨p, 1, none⟩ = some (.map (some c1.g1)) ∧ V.cell? ⟨b, 0, none⟩ = some (.int .i64 d)) ∧ Hid (∃ c', Aft w V p c c' ∧ Says c' ⟨s1.L, partW s1.W d⟩ ∧ c'.uses = c1.uses) := by
  subst hW
  obtain ⟨V, c2, hr, a2, s2, u2, e0, e1⟩ := delW_mid (a.is.drewN 1) d
  have hc2 := a2.is.cells.2.1
  rw [e1] at hc2
  exact ⟨V, hr, ⟨(a.is.drewN 1).cells.2.1, hb⟩, ⟨hc2, (World.cell?_of_block (a2.only.block _ (cellLt hb) hnb)).trans hb⟩, ⟨c2, (a.post (below_drewN (Below.refl _ _) 1)).trans a2, s2 _ hs, u2⟩⟩
set_option maxHeartbeats 4000000 in
theorem cut_p (p : Nat) (c : Pc) (s : Cs) (v : Value) (ks : List Ky) (w : World) (h : IsC w p c) (hs : Says c s) (hk : RdK w v ks (c.blk p)) (hl : ks.length ≤ 1000000000000000) : Calls Try.prog 29 #[.pointer (some ⟨p, 0, none⟩), v] w fun x w' => x = .returned (.tuple #[]) ∧ ∃ c', Aft w w' p c c' ∧ Says c' (s.cut ks) ∧ c'.uses = c.uses := by
  obtain ⟨a, cap, rfl, hk⟩ := hk
  obtain ⟨n, hn⟩ : ∃ n, ks.length = n := ⟨_, rfl⟩
  rw [hn] at hl ⊢
  have HK : Hid (∀ (j : Nat), j < n → ∃ k, ks[j]? = some k ∧ ∃ g o, a = some ⟨g, o, none⟩ ∧ ∀ wr cj, Aft w wr p c cj → wr.cell? ⟨g, o + j * 2, none⟩ = some (.int .i64 k.d) ∧ wr.cell? ⟨g, o + j * 2 + 1, none⟩ = some (.string k.nm)) := fun j hj => by
    obtain ⟨k, he⟩ : ∃ k, ks[j]? = some k := ⟨_, List.getElem?_eq_getElem (by omega)⟩
    obtain ⟨g, o, ha, h0, h1, hg⟩ := hk j k he
    exact ⟨k, he, g, o, ha, fun wr cj hA => ⟨(World.cell?_of_block (hA.only.block _ (cellLt h0) hg)).trans h0, (World.cell?_of_block (hA.only.block _ (cellLt h1) hg)).trans h1⟩⟩
  have HS : Hid (Aft w w p c c ∧ Says c (s.cut (ks.take 0)) ∧ ks.take n = ks ∧ (∀ k, c.blk p k → k < w.heap.size)) := ⟨Aft.refl h (Below.refl _ _), hs, by rw [← hn]; exact List.take_length, fun k hk => h.lt hk⟩
  clear h hs hk hn
  go_enter Try.func29, Try.ntmps29
  go_wp2
  go_loopw [8, 5] (fun s8 _ wr => ∃ j : Nat, j ≤ n ∧ s8 = .int .i64 j ∧ Hid (∃ cj, Aft w wr p c cj ∧ Says cj (s.cut (ks.take j)) ∧ cj.uses = c.uses)) (fun s8 _ _ => n - (intOf s8).toNat)
  case atStart => exact ⟨0, Nat.zero_le _, rfl, c, HS.out.1, HS.out.2.1, rfl⟩
  case round =>
    obtain ⟨j, hj, rfl, HR⟩ := hrel
    by_cases hlt : j < n
    · obtain ⟨k, he, g, o, rfl, hcell⟩ := HK.out j hlt
      obtain ⟨cj, ha, hsj, huj⟩ := HR.out
      obtain ⟨q0, q1⟩ := hcell wr cj ha
      have hltz : (j : Int) < (n : Int) := by omega
      obtain ⟨W1, hW1⟩ : ∃ W1, wr.alloc (.cells #[.int .i64 k.d, .string k.nm] 28) = W1 := ⟨_, rfl⟩
      have b1 := boxO hW1
      have e0 : W1.cell? ⟨wr.heap.size, 0, none⟩ = some (.int .i64 k.d) := by rw [cell_of b1.1]; rfl
      have e1 : W1.cell? ⟨wr.heap.size, 1, none⟩ = some (.string k.nm) := by rw [cell_of b1.1]; rfl
      have a1 := ha.post b1.2.1
      have nb : ¬ cj.blk p wr.heap.size := fun e => by have := ha.is.lt e; omega
      by_cases hnm : k.nm = nob
      · have hnt : (k.nm.toList == []) = true := by rw [hnm, nob_list]; rfl
        obtain ⟨V, c2, hr, a2, q2⟩ := delO_mid (a1.is.drewN 1) k.d
        have aV := (a1.post (below_drewN (Below.refl _ W1) 1)).trans a2
        have nb2 : ¬ c2.blk p wr.heap.size := fun e => by
          rcases a2.nblk _ e with e | e
          · exact nb e
          · have : W1.heap.size ≤ wr.heap.size := e
            omega
        have f0 : V.cell? ⟨wr.heap.size, 0, none⟩ = some (.int .i64 k.d) := (World.cell?_of_block (a2.only.block _ (cellLt e0) nb)).trans e0
        have kp : W1.drew.cell? ⟨p, 0, none⟩ = some (.map (some cj.g0)) ∧ W1.drew.cell? ⟨wr.heap.size, 0, none⟩ = some (.int .i64 k.d) := ⟨(a1.is.drewN 1).cells.1, e0⟩
        have kq : V.cell? ⟨p, 0, none⟩ = some (.map (some cj.g0)) ∧ V.cell? ⟨wr.heap.size, 0, none⟩ = some (.int .i64 k.d) := ⟨by rw [← q2.g0]; exact a2.is.cells.1, f0⟩
        obtain ⟨V2, hr2, kp2, kq2, HE⟩ := cut_end aV f0 nb2 (q2.says hsj) rfl
        rw [q2.g1] at hr2 kp2 kq2
        have H2 : Hid (∃ cj, Aft w V2 p c cj ∧ Says cj (s.cut (ks.take (j + 1))) ∧ cj.uses = c.uses) := by
          obtain ⟨c', x1, x2, x3⟩ := HE.out
          refine ⟨c', x1, ?_, x3.trans (q2.uses.trans huj)⟩
          rw [cut_snoc s ks j k he]
          unfold Cs.cut1 cutEs
          rw [hit_all hnm]; exact x2
        clear ha hsj huj hcell he b1 a1 nb hnm a2 q2 aV nb2 f0 HE HR
        go_upto_region 4 with fail
        clear hW1
        go_region_held3 (fun W => W.cell? ⟨p, 0, none⟩ = some (.map (some cj.g0)) ∧ W.cell? ⟨wr.heap.size, 0, none⟩ = some (.int .i64 k.d))
          (with_reducible first | exact kp | exact kq)
          (first | (refine step_delM rfl (.tmp 18) (.tmp 20) 68 3 rfl _ _ (by simp [Act.eval]) (by simp [Act.eval]) V hr ?_))
        clear kp kq hr
        go_upto_region 6 with fail
        go_region_held3 (fun W => W.cell? ⟨p, 1, none⟩ = some (.map (some cj.g1)) ∧ W.cell? ⟨wr.heap.size, 0, none⟩ = some (.int .i64 k.d))
          (with_reducible first | exact kp2 | exact kq2)
          (first | (refine step_delM rfl (.tmp 27) (.tmp 29) 69 3 rfl _ _ (by simp [Act.eval]) (by simp [Act.eval]) V2 hr2 ?_))
        go_wp2
        exact ⟨⟨j + 1, by omega, by simp, H2⟩, by simp [intOf]; omega⟩
      · have hnt := nm_test hnm
        have HD : Hid (Calls Try.prog 53 #[.pointer (some ⟨p, 0, none⟩), .agg #[.int .i64 k.d, .string k.nm]] W1 fun x w' => x = .returned (.tuple #[]) ∧ ∃ V2, (∀ ty, (Builtin.delete_ #[69, 3] ty #[.map (some cj.g1), .int .i64 k.d]).run Try.prog w'.drew = .ok (.tuple #[]) V2) ∧ (w'.drew.cell? ⟨p, 1, none⟩ = some (.map (some cj.g1)) ∧ w'.drew.cell? ⟨wr.heap.size, 0, none⟩ = some (.int .i64 k.d)) ∧ (V2.cell? ⟨p, 1, none⟩ = some (.map (some cj.g1)) ∧ V2.cell? ⟨wr.heap.size, 0, none⟩ = some (.int .i64 k.d)) ∧ Hid (∃ cj, Aft w V2 p c cj ∧ Says cj (s.cut (ks.take (j + 1))) ∧ cj.uses = c.uses)) := by
          refine (drop_p p cj k W1 a1.is).mono ?_
          rintro x V ⟨rfl, c2, a2, q2⟩
          have nb2 : ¬ c2.blk p wr.heap.size := fun e => by
            rcases a2.nblk _ e with e | e
            · exact nb e
            · omega
          have f0 : V.cell? ⟨wr.heap.size, 0, none⟩ = some (.int .i64 k.d) := (World.cell?_of_block (a2.only.block _ (cellLt e0) nb)).trans e0
          obtain ⟨V2, hr2, kp2, kq2, HE⟩ := cut_end (a1.trans a2) f0 nb2 (q2.says hsj) rfl
          rw [q2.g1] at hr2 kp2 kq2
          refine ⟨rfl, V2, hr2, kp2, kq2, ?_⟩
          obtain ⟨c', x1, x2, x3⟩ := HE.out
          refine ⟨c', x1, ?_, x3.trans (q2.uses.trans huj)⟩
          rw [cut_snoc s ks j k he]
          unfold Cs.cut1 cutEs
          rw [hit_one hnm]; exact x2
        clear ha hsj huj hcell he b1 a1 nb hnm HR
        go_upto_region 6 with (go_at_call 53; refine HD.out.mono ?_; rintro x W3 ⟨rfl, V2, hr2, kp2, kq2, H2⟩)
        go_region_held3 (fun W => W.cell? ⟨p, 1, none⟩ = some (.map (some cj.g1)) ∧ W.cell? ⟨wr.heap.size, 0, none⟩ = some (.int .i64 k.d))
          (with_reducible first | exact kp2 | exact kq2)
          (first | (refine step_delM rfl (.tmp 27) (.tmp 29) 69 3 rfl _ _ (by simp [Act.eval]) (by simp [Act.eval]) V2 hr2 ?_))
        go_wp2
        exact ⟨⟨j + 1, by omega, by simp, H2⟩, by simp [intOf]; omega⟩
    · obtain rfl : j = n := by omega
      have hltz : ¬ (j : Int) < (j : Int) := by omega
      have HE : Hid (∃ c', Aft w wr p c c' ∧ Says c' (s.cut ks) ∧ c'.uses = c.uses) := by
        have := HR.out
        rw [HS.out.2.2.1] at this; exact this
      clear HR
      go_wp2
      go_end0
      exact ⟨rfl, HE.out⟩
end
section

end
section

end
section

end
section

end
section
open Go.RowKit

theorem wpList_apR {w : World} {ops : Array Oper} {rest : List Oper} {o : Oper} {a : Act} {Q : Exit → Act → World → Prop} (hgd : o.guard = none) (s x : Operand) (t : TypeId)
    (ho : o.op = .call { callee := .builtin .append, args := #[s, x], argTypes := #[t, t] }) (v xv r : Value) (W : World) (hs : a.eval s = v) (hx : a.eval x = xv) (hr : ∀ ty, (Builtin.append_ #[t, t] ty #[v, xv]).run Try.prog w = .ok r W)
    (h : wpList Try.prog ops Q rest (a.put o.dst r) W) : wpList Try.prog ops Q (o :: rest) a w := by
  refine wpList_plain hgd fun K hK => ?_
  unfold Oper.wp execOp
  simp only [ho, resolve, invoke, builtin, Sem.run_bind, Sem.run_pure, Result.andThen_ok, List.map_toArray, List.map_cons, List.map_nil, hs, hx, hr]
  exact hK _ _ h
theorem step_apR {w : World} {ops : Array Oper} {o : Oper} {a : Act} {K : Act → World → Prop} {Q : Exit → Act → World → Prop} {E : Prop} (hgd : o.guard = none) (s x : Operand) (t : TypeId)
    (ho : o.op = .call { callee := .builtin .append, args := #[s, x], argTypes := #[t, t] }) (v xv r : Value) (W : World) (hs : a.eval s = v) (hx : a.eval x = xv) (hr : ∀ ty, (Builtin.append_ #[t, t] ty #[v, xv]).run Try.prog w = .ok r W)
    (h : K (a.put o.dst r) W) : if Region.wanted o (yielded ops a.tmps) = true then Oper.wp Try.prog o a w K Q else E := by
  have hw : Region.wanted o (yielded ops a.tmps) = true := by simp [Region.wanted, hgd]
  rw [if_pos hw]
  unfold Oper.wp execOp
  simp only [ho, resolve, invoke, builtin, Sem.run_bind, Sem.run_pure, Result.andThen_ok, List.map_toArray, List.map_cons, List.map_nil, hs, hx, hr]
  exact h
/-- a list of ints in memory -/
def ci (l : List Int) : List Value := l.map (Value.int .i64)
theorem ci_len (l : List Int) : (ci l).length = l.length * 1 := by unfold ci; simp
theorem ci_app (a b : List Int) : ci (a ++ b) = ci a ++ ci b := by unfold ci; simp
def RowI (w : World) (base : Nat) (v : Value) (l : List Int) : Prop := w.ownsRow base 3 1 v l.length (ci l)
theorem ci_one (l : List Int) : ∀ u ∈ ci l, u.oneCell' = true := ints_oneCell .i64 l
theorem ec_one' (l : List En) : ∀ u ∈ ec l, u.oneCell' = true := by
  intro u hu
  obtain ⟨x, _, hx⟩ := List.mem_flatMap.1 hu
  exact enVals_one x u hx
theorem kc_one' (l : List Ky) : ∀ u ∈ kc l, u.oneCell' = true := by
  intro u hu
  obtain ⟨x, _, hx⟩ := List.mem_flatMap.1 hu
  simp at hx
  rcases hx with rfl | rfl <;> rfl
theorem kc_app' (a b : List Ky) : kc (a ++ b) = kc a ++ kc b := by unfold kc; rw [List.flatMap_append]
theorem Try.infoKy' : (Try.prog.info? 28).map (fun i => (i.zero, i.size, i.bytes)) = some (some (.agg #[.int .i64 0, .string ⟨#[]⟩]), 2, 24) := by kernel_rfl
theorem Try.infoIn : (Try.prog.info? 3).map (fun i => (i.zero, i.size, i.bytes)) = some (some (.int .i64 0), 1, 8) := by kernel_rfl
/-- append to a list of entries -/
theorem appE {w : World} {B : Nat} {v : Value} {l l2 : List En} {ad : Addr} {c : Nat} (h : Row7 w B v l) (h2 : ∀ j u, (ec l2)[j]? = some u → w.cell? (ad.add j) = some u) (hB : B ≤ w.heap.size) (hl : (l.length + l2.length) * 72 ≤ 140737488355328) :
    ∃ v3 W, (∀ ty, (Builtin.append_ #[51, 51] ty #[v, .slice (some ad) l2.length c]).run Try.prog w = .ok v3 W) ∧ Row7 W B v3 (l ++ l2) ∧ Only (fun k => v.ownBlock = some k) w W ∧ (v3.ownBlock = v.ownBlock ∨ v3.ownBlock = some w.heap.size) := by
  obtain ⟨i1, hi1, hw0, hw1, hw2⟩ := info_parts Try.infoE
  obtain ⟨v', W, a1, a2, a3, _, a5⟩ := run_append_own_at (P := Try.prog) w B 51 0 42 i1 _ 7 72 Try.underlying51 hi1 hw0 hw1 hw2 rfl (by decide) v l.length (ec l) h ad l2.length c (ec l2) (ec_len l2) h2 (ec_one' l2) (by unfold maxLen; omega) hl hB
  refine ⟨v', W, fun ty => ?_, ?_, only_grown a3, a5⟩
  · have : (Builtin.append_ #[51, 51] ty #[v, .slice (some ad) l2.length c]).run Try.prog w = (Builtin.append_ #[51, 51] 0 #[v, .slice (some ad) l2.length c]).run Try.prog w := rfl
    rw [this]; exact a1
  · show World.ownsRow _ _ _ _ _ _ _
    rw [List.length_append, ec_app]; exact a2
/-- append to a list of keys -/
theorem appK {w : World} {B : Nat} {v : Value} {l l2 : List Ky} {ad : Addr} {c : Nat} (h : RowK w B v l) (h2 : ∀ j u, (kc l2)[j]? = some u → w.cell? (ad.add j) = some u) (hB : B ≤ w.heap.size) (hl : (l.length + l2.length) * 24 ≤ 140737488355328) :
    ∃ v3 W, (∀ ty, (Builtin.append_ #[32, 32] ty #[v, .slice (some ad) l2.length c]).run Try.prog w = .ok v3 W) ∧ RowK W B v3 (l ++ l2) ∧ Only (fun k => v.ownBlock = some k) w W ∧ (v3.ownBlock = v.ownBlock ∨ v3.ownBlock = some w.heap.size) := by
  obtain ⟨i1, hi1, hw0, hw1, hw2⟩ := info_parts Try.infoKy'
  obtain ⟨v', W, a1, a2, a3, _, a5⟩ := run_append_own_at (P := Try.prog) w B 32 0 28 i1 _ 2 24 Try.underlying32 hi1 hw0 hw1 hw2 rfl (by decide) v l.length (kc l) h ad l2.length c (kc l2) (kc_len l2) h2 (kc_one' l2) (by unfold maxLen; omega) hl hB
  refine ⟨v', W, fun ty => ?_, ?_, only_grown a3, a5⟩
  · have : (Builtin.append_ #[32, 32] ty #[v, .slice (some ad) l2.length c]).run Try.prog w = (Builtin.append_ #[32, 32] 0 #[v, .slice (some ad) l2.length c]).run Try.prog w := rfl
    rw [this]; exact a1
  · show World.ownsRow _ _ _ _ _ _ _
    rw [List.length_append, kc_app']; exact a2
/-- append to a list of ints -/
theorem appI {w : World} {B : Nat} {v : Value} {l l2 : List Int} {ad : Addr} {c : Nat} (h : RowI w B v l) (h2 : ∀ j u, (ci l2)[j]? = some u → w.cell? (ad.add j) = some u) (hB : B ≤ w.heap.size) (hl : (l.length + l2.length) * 8 ≤ 140737488355328) :
    ∃ v3 W, (∀ ty, (Builtin.append_ #[76, 76] ty #[v, .slice (some ad) l2.length c]).run Try.prog w = .ok v3 W) ∧ RowI W B v3 (l ++ l2) ∧ Only (fun k => v.ownBlock = some k) w W ∧ (v3.ownBlock = v.ownBlock ∨ v3.ownBlock = some w.heap.size) := by
  obtain ⟨i1, hi1, hw0, hw1, hw2⟩ := info_parts Try.infoIn
  obtain ⟨v', W, a1, a2, a3, _, a5⟩ := run_append_own_at (P := Try.prog) w B 76 0 3 i1 _ 1 8 Try.underlying76 hi1 hw0 hw1 hw2 rfl (by decide) v l.length (ci l) h ad l2.length c (ci l2) (ci_len l2) h2 (ci_one l2) (by unfold maxLen; omega) hl hB
  refine ⟨v', W, fun ty => ?_, ?_, only_grown a3, a5⟩
  · have : (Builtin.append_ #[76, 76] ty #[v, .slice (some ad) l2.length c]).run Try.prog w = (Builtin.append_ #[76, 76] 0 #[v, .slice (some ad) l2.length c]).run Try.prog w := rfl
    rw [this]; exact a1
  · show World.ownsRow _ _ _ _ _ _ _
    rw [List.length_append, ci_app]; exact a2
/-- a list of one, made, shut -/
def enOne (ps : Array (Nat × Value)) : Sem Value := Instr.buildSlice 51 1 ps
theorem builden (ps : Array (Nat × Value)) : Instr.buildSlice 51 1 ps = enOne ps := rfl
theorem enOne_of (x : En) (w : World) : (enOne #[(0, x.agg)]).run Try.prog w = .ok (.slice (some ⟨w.heap.size, 0, none⟩) 1 1) (w.alloc (.cells (x.vals).toArray 42)) := by
  unfold enOne Instr.buildSlice
  simp [run_underlying Try.underlying51, Try.sizeOf42, Try.zeroValue42, Instr.fill, Value.cells, newRow, En.agg, En.vals]
  rw [show Array.range 7 = #[0, 1, 2, 3, 4, 5, 6] from rfl]
  simp
attribute [irreducible] enOne
theorem one_atG {w : World} {cs : List Value} {t : TypeId} : ∀ j u, cs[j]? = some u → (w.alloc (.cells cs.toArray t)).cell? ((⟨w.heap.size, 0, none⟩ : Addr).add j) = some u := by
  intro j u hu
  rw [add_plain', Nat.zero_add, cell_of (heap_new _ _), List.getElem?_toArray]; exact hu
end
end Go.Proofs.Ytafefnmkhmjecaa
