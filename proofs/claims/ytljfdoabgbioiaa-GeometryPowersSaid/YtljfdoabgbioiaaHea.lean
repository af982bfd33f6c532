/- Who is heard: the program's and the document's. -/
import Derived.Test.YtljfdoabgbioiaaNst
import Derived.Laws.AppendOwn
import Derived.Deep.AppendLies
import Derived.Deep.Onto
namespace Go.Proofs.Ytljfdoabgbioiaa
open Go.RowKit
set_option linter.unusedVariables false

theorem total_nil (w : World) : Calls Try.prog 73 #[.slice none 0 0] w fun e w' => e = .returned (.int .i64 0) ∧ w' = w := by
  go_enter Try.func73, Try.ntmps73
  go_wp2_with fail
  go_loop [3, 5, 8] (fun s _ i => s = .int .i64 0 ∧ i = .int .i64 0) (fun _ _ _ => 0)
  case atStart => exact ⟨rfl, rfl⟩
  case round =>
    obtain ⟨rfl, rfl⟩ := hrel
    go_wp2_with fail
    go_ret
    exact ⟨rfl, rfl⟩
theorem sum_nil (w : World) : Calls Try.prog 69 #[.slice none 0 0] w fun e w' => e = .returned (.tuple #[.int .i64 0, .int .i64 0]) ∧ w' = w := by
  go_enter Try.func69, Try.ntmps69
  go_wp2_with fail
  go_loop [5, 11] (fun _ i => i = .int .i64 0) (fun _ _ => 0)
  case atStart => exact rfl
  case round =>
    obtain rfl := hrel
    go_wp2_with fail
    refine (total_nil _).mono ?_
    rintro e w' ⟨rfl, rfl⟩
    go_wp2_with fail
    go_ret2
    exact ⟨rfl, rfl⟩
theorem received_nil (s t o : Int) (w : World) (s0 : 0 ≤ s) (s1 : s ≤ 68719476736) (t0 : 1000 ≤ t) (t1 : t ≤ 100000) (o0 : 1 ≤ o) (o1 : o ≤ 68719476736) :
    Calls Try.prog 59 #[.int .i64 s, .int .i64 t, .int .i64 o, .slice none 0 0] w fun e w' => e = .returned (.tuple #[.bool (decide (t * o ≤ 1000 * s)), .int .i64 0]) ∧ w' = w := by
  have hb := mul_bound t o 100000 68719476736 (by omega) t1 (by omega) (by omega)
  have hb0 : 0 ≤ t * o := hb.1
  have hb2 : t * o ≤ 6871947673600000 := hb.2
  have hw : IntKind.i64.wrap (t * o) = t * o := IntWalk.i64_in _ (by omega)
  have KP := isPowerP_any s w
  rw [isP_t.2 ⟨s0, by unfold MX; omega⟩] at KP
  have KR := isReceiver_any t o w
  rw [isR_t.2 ⟨⟨t0, t1⟩, o0, by unfold MX; omega⟩] at KR
  have KP := Lib.hid KP
  have KR := Lib.hid KR
  clear hb
  go_enter Try.func59, Try.ntmps59
  go_wp2_with fail
  refine KP.out.mono ?_
  rintro e w' ⟨rfl, rfl⟩
  go_wp2_with fail
  refine KR.out.mono ?_
  rintro e w'' ⟨rfl, rfl⟩
  go_wp2_with fail
  refine (sum_nil _).mono ?_
  rintro e w3 ⟨rfl, rfl⟩
  go_wp2_with fail
  go_ret2
  exact ⟨rfl, rfl⟩
theorem own_geI {w : World} {B n : Nat} {v : Value} {xs : List Value} (h : w.ownsRow B 3 1 v n xs) (k : Nat) (hk : v.ownBlock = some k) : B ≤ k := by
  rcases h.2 with ⟨rfl, _⟩ | ⟨g, cap', cur, rfl, hB, _⟩
  · simp [Value.ownBlock] at hk
  · simp only [Value.ownBlock, Option.some.injEq] at hk
    omega
theorem info3 : (Try.prog.info? 3).map (fun i => (i.zero, i.size, i.bytes)) = some (some (.int .i64 0), 1, 8) := by kernel_rfl
/-- Is the node a heard at the node b? -/
def hB (e o t : Int) (ps : List Pt) (zs : List Int) (ws : List Wl) (b a : Nat) : Bool := decide (t * o ≤ 1000 * btF e ps zs ws a b)
def hL (e o t : Int) (ps : List Pt) (zs : List Int) (ws : List Wl) (b k : Nat) : List Nat := (List.range k).filter (hB e o t ps zs ws b)
def vals (l : List Nat) : List Value := l.map fun (n : Nat) => Value.int .i64 (n : Int)
theorem hL_succ (e o t : Int) (ps : List Pt) (zs : List Int) (ws : List Wl) (b k : Nat) : hL e o t ps zs ws b (k + 1) = hL e o t ps zs ws b k ++ (if hB e o t ps zs ws b k = true then [k] else []) := by
  unfold hL
  rw [List.range_succ, List.filter_append]
  cases h : hB e o t ps zs ws b k <;> simp [h]
theorem hL_len (e o t : Int) (ps : List Pt) (zs : List Int) (ws : List Wl) (b k : Nat) : (hL e o t ps zs ws b k).length ≤ k := by
  unfold hL
  have := List.length_filter_le (hB e o t ps zs ws b) (List.range k)
  simpa using this
def Own (base : Nat) (w : World) (v : Value) (l : List Nat) : Prop := w.ownsRow base 3 1 v l.length (vals l)
theorem Own.kept {base : Nat} {w w' : World} {v : Value} {l : List Nat} (h : Own base w v l) (hf : Fr no w w') : Own base w' v l := World.ownsRow.kept h hf.growNo (Classical.em _)
def HeaRes (w w' : World) (l : List Nat) (e : Ending) : Prop := ∃ v, e = .returned (.tuple #[v, .int .i64 0]) ∧ Own w.heap.size w' v l ∧ Fr no w w'
set_option maxHeartbeats 8000000 in
theorem hears_2 (a0 : Option Addr) (l0 k0 : Nat) (a1 : Option Addr) (l1 k1 : Nat) (a2 : Option Addr) (l2 k2 : Nat) (e o t : Int) (ps : List Pt) (zs : List Int) (ws : List Wl) (b : Nat) (w : World) (hp : PtsIn w a0 l0 ps) (hz : IntsIn w a1 l1 zs) (hw : WlsIn w a2 l2 ws) (g0 : (ckB l0 l1 l2 e o t ps zs ws) = true) (hbl : b < l0) : Calls Try.prog 30 #[.agg #[.slice a0 l0 k0, .slice a1 l1 k1, .slice a2 l2 k2, .int .i64 e, .int .i64 o, .int .i64 t], .int .i64 (b : Int)] w fun e' w' => HeaRes w w' (hL e o t ps zs ws b l0) e' := by
  have KS := Lib.hid (show ∀ w0 w' : World, Fr no w0 w' → w0.cell? ⟨w.heap.size, 0, none⟩ = some (.slice a0 l0 k0) → w0.cell? ⟨w.heap.size, 1, none⟩ = some (.slice a1 l1 k1) → w0.cell? ⟨w.heap.size, 2, none⟩ = some (.slice a2 l2 k2) → w0.cell? ⟨w.heap.size, 3, none⟩ = some (.int .i64 e) → w0.cell? ⟨w.heap.size, 4, none⟩ = some (.int .i64 o) → w0.cell? ⟨w.heap.size, 5, none⟩ = some (.int .i64 t) → (w'.cell? ⟨w.heap.size, 0, none⟩ = some (.slice a0 l0 k0) ∧ w'.cell? ⟨w.heap.size, 1, none⟩ = some (.slice a1 l1 k1) ∧ w'.cell? ⟨w.heap.size, 2, none⟩ = some (.slice a2 l2 k2) ∧ w'.cell? ⟨w.heap.size, 3, none⟩ = some (.int .i64 e) ∧ w'.cell? ⟨w.heap.size, 4, none⟩ = some (.int .i64 o) ∧ w'.cell? ⟨w.heap.size, 5, none⟩ = some (.int .i64 t)) from fun _ _ h a0 a1 a2 a3 a4 a5 => ⟨h.keepc a0, h.keepc a1, h.keepc a2, h.keepc a3, h.keepc a4, h.keepc a5⟩)
  obtain ⟨W, hW⟩ : ∃ W, W = (w.alloc (.cells #[.slice a0 l0 k0, .slice a1 l1 k1, .slice a2 l2 k2, .int .i64 e, .int .i64 o, .int .i64 t] 34 (0, 0))) := ⟨_, rfl⟩
  have HF := Lib.hid (show Fr no w W by rw [hW]; exact (Fr.refl no w).alloc _)
  have c0 : W.cell? ⟨w.heap.size, 0, none⟩ = some (.slice a0 l0 k0) := by rw [hW]; go_simp
  have c1 : W.cell? ⟨w.heap.size, 1, none⟩ = some (.slice a1 l1 k1) := by rw [hW]; go_simp
  have c2 : W.cell? ⟨w.heap.size, 2, none⟩ = some (.slice a2 l2 k2) := by rw [hW]; go_simp
  have c3 : W.cell? ⟨w.heap.size, 3, none⟩ = some (.int .i64 e) := by rw [hW]; go_simp
  have c4 : W.cell? ⟨w.heap.size, 4, none⟩ = some (.int .i64 o) := by rw [hW]; go_simp
  have c5 : W.cell? ⟨w.heap.size, 5, none⟩ = some (.int .i64 t) := by rw [hW]; go_simp
  have HW := Lib.hid hW
  clear hW
  have K24 := fun w' (h : Fr no w w') => check_any a0 l0 k0 a1 l1 k1 a2 l2 k2 e o t ps zs ws w' (hp.kept h) (hz.kept h) (hw.kept h)
  rw [g0, show ckE true = 0 from rfl] at K24
  have K24 := Lib.hid K24
  have hg := ckB_t g0
  have KN := fun w => hasNode_any a0 l0 k0 a1 l1 k1 a2 l2 k2 e o t b w (by have := hg.n1; omega)
  rw [show hnB l0 (b : Int) = true by unfold hnB; rw [inR_t]; omega] at KN
  have KN := Lib.hid KN
  have KB := Lib.hid (fun (a : Nat) (ha : a < l0) w' (h : Fr no w w') => between_any a0 l0 k0 a1 l1 k1 a2 l2 k2 e o t ps zs ws a b w' (hp.kept h) (hz.kept h) (hw.kept h) hg ha hbl)
  have KV := Lib.hid (fun (a : Nat) (ha : a < l0) => btF_bound e ps zs ws a b hg.zs (by have := hz.1; have := hg.n2; omega))
  have KRr := Lib.hid (fun (s : Int) (w : World) (s0 : 0 ≤ s) (s1 : s ≤ MX) => received_nil s t o w s0 s1 hg.t0 hg.t1 hg.o0 hg.o1)
  have q2 : (2 : Int) ≤ (l0 : Int) := by have := hg.n0; omega
  have q3 : (l0 : Int) ≤ 32 := by have := hg.n1; omega
  clear hp hz hw g0 hg hbl
  obtain ⟨i0, hi, hz0, hz1, hz2⟩ := info_parts info3
  go_enter Try.func30, Try.ntmps30
  go_wp2_with fail
  rw [← HW.out]
  refine (K24.out _ HF.out).mono ?_
  rintro e y1 ⟨rfl, f1⟩
  obtain ⟨d1_0, d1_1, d1_2, d1_3, d1_4, d1_5⟩ := KS.out _ _ f1 c0 c1 c2 c3 c4 c5
  have HF1 := Lib.hid (HF.out.noTrans f1)
  clear f1 c0 c1 c2 c3 c4 c5
  go_wp2_with fail
  refine (KN.out _).mono ?_
  rintro e y2 ⟨rfl, f2⟩
  obtain ⟨d2_0, d2_1, d2_2, d2_3, d2_4, d2_5⟩ := KS.out _ _ f2 d1_0 d1_1 d1_2 d1_3 d1_4 d1_5
  have HF2 := Lib.hid (HF1.out.noTrans f2)
  clear f2 d1_0 d1_1 d1_2 d1_3 d1_4 d1_5
  go_wp2_with fail
  have HC0 := Lib.hid d2_0
  have HC1 := Lib.hid d2_1
  have HC2 := Lib.hid d2_2
  have HC3 := Lib.hid d2_3
  have HC4 := Lib.hid d2_4
  have HC5 := Lib.hid d2_5
  have HS := Lib.hid (show w.heap.size ≤ y2.heap.size from HF2.out.size)
  go_loopw [6, 7, 8, 9, 20] (fun v _ _ _ i wr => ∃ k : Nat, k ≤ l0 ∧ i = .int .i64 k ∧ Hid (Own y2.heap.size wr v (hL e o t ps zs ws b k)) ∧ Fr no y2 wr) (fun _ _ _ _ i _ => l0 - (intOf i).toNat)
  case atStart => exact ⟨0, by omega, rfl, Lib.hid (by show World.ownsRow _ _ 3 1 _ 0 []; exact World.ownsRow_nil _ _ _ _), Fr.refl _ _⟩
  case round =>
    obtain ⟨k, hk, rfl, ho, hf⟩ := hrel
    have HFr := Lib.hid hf
    clear hf d2_0 d2_1 d2_2 d2_3 d2_4 d2_5
    have r0 := HFr.out.keepc HC0.out
    have r1 := HFr.out.keepc HC1.out
    have r2 := HFr.out.keepc HC2.out
    have r3 := HFr.out.keepc HC3.out
    have r4 := HFr.out.keepc HC4.out
    have r5 := HFr.out.keepc HC5.out
    by_cases hlt : k < l0
    · have hv := KV.out k hlt
      have HN := Lib.hid (hL_succ e o t ps zs ws b k)
      have HB := Lib.hid (show decide (t * o ≤ 1000 * btF e ps zs ws k b) = hB e o t ps zs ws b k from rfl)
      have K5 := KB.out k hlt
      have HLn := Lib.hid (hL_len e o t ps zs ws b k)
      generalize btF e ps zs ws k b = s at *
      generalize hL e o t ps zs ws b k = L at *
      obtain ⟨v0, v1⟩ := hv
      have K6 := fun w => KRr.out s w v0 v1
      rw [HB.out] at K6
      generalize hB e o t ps zs ws b k = hb at *
      have K5 := Lib.hid K5
      have K6 := Lib.hid K6
      clear v0 v1
      have hkI : (k : Int) < (l0 : Int) := by omega
      go_wp2_with fail
      have tokf5 : True := trivial
      go_region_held3 (fun w' => w'.cell? ⟨w.heap.size, 0, none⟩ = some (.slice a0 l0 k0) ∧ w'.cell? ⟨w.heap.size, 1, none⟩ = some (.slice a1 l1 k1) ∧ w'.cell? ⟨w.heap.size, 2, none⟩ = some (.slice a2 l2 k2) ∧ w'.cell? ⟨w.heap.size, 3, none⟩ = some (.int .i64 e) ∧ w'.cell? ⟨w.heap.size, 4, none⟩ = some (.int .i64 o) ∧ w'.cell? ⟨w.heap.size, 5, none⟩ = some (.int .i64 t)) (go_keep)
        (first
          | (go_at_call 52; have _tk := tokf5; refine (K5.out _ (by exact (HF2.out.noTrans HFr.out).drew)).mono ?_; rintro e w5 ⟨rfl, f5⟩; clear _tk tokf5; obtain ⟨kf50, kf51, kf52, kf53, kf54, kf55⟩ := KS.out _ _ f5 r0 r1 r2 r3 r4 r5)
          | (go_at_call 59; refine (K6.out _).mono ?_; rintro e6 w6 ⟨rfl, rfl⟩))
      have HF5 := Lib.hid ((HFr.out.drew).noTrans f5)
      have HO := Lib.hid (ho.out.kept ((Fr.refl no wr).drew.noTrans f5))
      clear ho f5 r0 r1 r2 r3 r4 r5 kf50 kf51 kf52 kf53 kf54 kf55
      cases hb
      · go_wp2_with fail
        exact ⟨⟨k + 1, by omega, by go_num, by rw [HN.out]; simpa using HO, HF5.out⟩, by simp [intOf]; omega⟩
      · have hown : World.ownsRow w6 y2.heap.size 3 1 u6 L.length (vals L) := HO.out
        go_wp2_with (at_builtin; refine wpList_append_own _ rfl (.tmp 36) (.tmp 38) 31 rfl y2.heap.size 3 i0 (.int .i64 0) 1 8 Try.underlying31 hi hz0 hz1 hz2 rfl (by decide) _ _ _ rfl (hown.alloc _) ⟨w6.heap.size, 0, none⟩ 1 1 [.int .i64 (k : Int)] rfl rfl ?c1 ?c2 ?c3 ?c4 ?c5 ?_)
        case c2 => simp [Value.oneCell']
        case c3 => have := HLn.out; unfold maxLen; omega
        case c4 => have := HLn.out; omega
        case c5 => have := HF5.out.size; simp; omega
        intro v' w7 hown7 hgrow7 _
        have hF7 : Fr no y2 w7 := (HF5.out.alloc _).grown hgrow7 (fun j hj => .inr (own_geI hown j hj))
        have HF7 := Lib.hid hF7
        have hO7 : Own y2.heap.size w7 v' (L ++ [k]) := by
          unfold Own vals
          rw [List.length_append, List.map_append]
          exact hown7
        have HO7 := Lib.hid hO7
        clear hF7 hO7 hown7 hgrow7
        go_wp2_with fail
        exact ⟨⟨k + 1, by omega, by go_num, by rw [HN.out]; simpa using HO7, HF7.out⟩, by simp [intOf]; omega⟩
    · obtain rfl : k = l0 := by omega
      go_wp2_with fail
      go_ret2
      exact ⟨_, rfl, World.ownsRow.mono ho.out HS.out, HF2.out.noTrans HFr.out⟩
set_option maxHeartbeats 8000000 in
theorem hearsR_2 (a0 : Option Addr) (l0 k0 : Nat) (a1 : Option Addr) (l1 k1 : Nat) (a2 : Option Addr) (l2 k2 : Nat) (e o t : Int) (ps : List Pt) (zs : List Int) (ws : List Wl) (b : Nat) (w : World) (hp : PtsIn w a0 l0 ps) (hz : IntsIn w a1 l1 zs) (hw : WlsIn w a2 l2 ws) (g0 : (ckB l0 l1 l2 e o t ps zs ws) = true) (hbl : b < l0) : Calls Try.prog 31 #[.agg #[.slice a0 l0 k0, .slice a1 l1 k1, .slice a2 l2 k2, .int .i64 e, .int .i64 o, .int .i64 t], .int .i64 (b : Int)] w fun e' w' => HeaRes w w' (hL e o t ps zs ws b l0) e' := by
  have KS := Lib.hid (show ∀ w0 w' : World, Fr no w0 w' → w0.cell? ⟨w.heap.size, 0, none⟩ = some (.slice a0 l0 k0) → w0.cell? ⟨w.heap.size, 1, none⟩ = some (.slice a1 l1 k1) → w0.cell? ⟨w.heap.size, 2, none⟩ = some (.slice a2 l2 k2) → w0.cell? ⟨w.heap.size, 3, none⟩ = some (.int .i64 e) → w0.cell? ⟨w.heap.size, 4, none⟩ = some (.int .i64 o) → w0.cell? ⟨w.heap.size, 5, none⟩ = some (.int .i64 t) → (w'.cell? ⟨w.heap.size, 0, none⟩ = some (.slice a0 l0 k0) ∧ w'.cell? ⟨w.heap.size, 1, none⟩ = some (.slice a1 l1 k1) ∧ w'.cell? ⟨w.heap.size, 2, none⟩ = some (.slice a2 l2 k2) ∧ w'.cell? ⟨w.heap.size, 3, none⟩ = some (.int .i64 e) ∧ w'.cell? ⟨w.heap.size, 4, none⟩ = some (.int .i64 o) ∧ w'.cell? ⟨w.heap.size, 5, none⟩ = some (.int .i64 t)) from fun _ _ h a0 a1 a2 a3 a4 a5 => ⟨h.keepc a0, h.keepc a1, h.keepc a2, h.keepc a3, h.keepc a4, h.keepc a5⟩)
  obtain ⟨W, hW⟩ : ∃ W, W = (w.alloc (.cells #[.slice a0 l0 k0, .slice a1 l1 k1, .slice a2 l2 k2, .int .i64 e, .int .i64 o, .int .i64 t] 34 (0, 0))) := ⟨_, rfl⟩
  have HF := Lib.hid (show Fr no w W by rw [hW]; exact (Fr.refl no w).alloc _)
  have c0 : W.cell? ⟨w.heap.size, 0, none⟩ = some (.slice a0 l0 k0) := by rw [hW]; go_simp
  have c1 : W.cell? ⟨w.heap.size, 1, none⟩ = some (.slice a1 l1 k1) := by rw [hW]; go_simp
  have c2 : W.cell? ⟨w.heap.size, 2, none⟩ = some (.slice a2 l2 k2) := by rw [hW]; go_simp
  have c3 : W.cell? ⟨w.heap.size, 3, none⟩ = some (.int .i64 e) := by rw [hW]; go_simp
  have c4 : W.cell? ⟨w.heap.size, 4, none⟩ = some (.int .i64 o) := by rw [hW]; go_simp
  have c5 : W.cell? ⟨w.heap.size, 5, none⟩ = some (.int .i64 t) := by rw [hW]; go_simp
  have HW := Lib.hid hW
  clear hW
  have K24 := fun w' (h : Fr no w w') => checkR_any a0 l0 k0 a1 l1 k1 a2 l2 k2 e o t ps zs ws w' (hp.kept h) (hz.kept h) (hw.kept h)
  rw [g0, show ckE true = 0 from rfl] at K24
  have K24 := Lib.hid K24
  have hg := ckB_t g0
  have hnb : ∀ a : Nat, a < l0 → hnB l0 (a : Int) = true := fun a ha => by unfold hnB; rw [inR_t]; omega
  have KB := fun (a : Nat) (ha : a < l0) w' (h : Fr no w w') => betweenR_any a0 l0 k0 a1 l1 k1 a2 l2 k2 e o t ps zs ws a b w' (hp.kept h) (hz.kept h) (hw.kept h)
  have KB2 : ∀ (a : Nat), a < l0 → ∀ w', Fr no w w' → Calls Try.prog 21 #[.agg #[.slice a0 l0 k0, .slice a1 l1 k1, .slice a2 l2 k2, .int .i64 e, .int .i64 o, .int .i64 t], .int .i64 (a : Int), .int .i64 (b : Int)] w' fun e' w'' => e' = .returned (.tuple #[.int .i64 (btF e ps zs ws a b), .int .i64 0]) ∧ Fr no w' w'' := fun a ha w' h => by
    have := KB a ha w' h
    rwa [show bwV (ckB l0 l1 l2 e o t ps zs ws) l0 e ps zs ws a b = btF e ps zs ws a b by unfold bwV bwB; rw [g0, hnb a ha, hnb b hbl]; rfl, show bwE (ckB l0 l1 l2 e o t ps zs ws) l0 a b = 0 by unfold bwE bwB; rw [g0, hnb a ha, hnb b hbl]; rfl] at this
  clear KB hnb
  have KB := Lib.hid KB2
  clear KB2
  have KV := Lib.hid (fun (a : Nat) (ha : a < l0) => btF_bound e ps zs ws a b hg.zs (by have := hz.1; have := hg.n2; omega))
  have KRr := Lib.hid (fun (s : Int) (w : World) (s0 : 0 ≤ s) (s1 : s ≤ MX) => decide_any s t o w s0 s1 hg.t0 hg.t1 hg.o0 hg.o1)
  have q0 : (0 : Int) ≤ (b : Int) := by omega
  have q1 : (b : Int) < (l0 : Int) := by omega
  have q4 : decide (l0 ≤ b) = false := by simpa using hbl
  have q2 : (2 : Int) ≤ (l0 : Int) := by have := hg.n0; omega
  have q3 : (l0 : Int) ≤ 32 := by have := hg.n1; omega
  clear hp hz hw g0 hg hbl
  obtain ⟨i0, hi, hz0, hz1, hz2⟩ := info_parts info3
  go_enter Try.func31, Try.ntmps31
  go_wp2_with fail
  rw [← HW.out]
  refine (K24.out _ HF.out).mono ?_
  rintro e y1 ⟨rfl, f1⟩
  obtain ⟨d1_0, d1_1, d1_2, d1_3, d1_4, d1_5⟩ := KS.out _ _ f1 c0 c1 c2 c3 c4 c5
  have HF1 := Lib.hid (HF.out.noTrans f1)
  clear f1 c0 c1 c2 c3 c4 c5
  go_wp2_with fail
  have HC0 := Lib.hid d1_0
  have HC1 := Lib.hid d1_1
  have HC2 := Lib.hid d1_2
  have HC3 := Lib.hid d1_3
  have HC4 := Lib.hid d1_4
  have HC5 := Lib.hid d1_5
  have HS := Lib.hid (show w.heap.size ≤ y1.heap.size from HF1.out.size)
  go_loopw [6, 7, 8, 9] (fun v i _ _ wr => ∃ k : Nat, k ≤ l0 ∧ i = .int .i64 k ∧ Hid (Own y1.heap.size wr v (hL e o t ps zs ws b k)) ∧ Fr no y1 wr) (fun _ i _ _ _ => l0 - (intOf i).toNat)
  case atStart => exact ⟨0, by omega, rfl, Lib.hid (by show World.ownsRow _ _ 3 1 _ 0 []; exact World.ownsRow_made y1 #[] 0 (Nat.le_refl _) (Nat.zero_le _) (by simp)), (Fr.refl _ _).alloc _⟩
  case round =>
    obtain ⟨k, hk, rfl, ho, hf⟩ := hrel
    have HFr := Lib.hid hf
    clear hf d1_0 d1_1 d1_2 d1_3 d1_4 d1_5
    have r0 := HFr.out.keepc HC0.out
    have r1 := HFr.out.keepc HC1.out
    have r2 := HFr.out.keepc HC2.out
    have r3 := HFr.out.keepc HC3.out
    have r4 := HFr.out.keepc HC4.out
    have r5 := HFr.out.keepc HC5.out
    by_cases hlt : k < l0
    · have hv := KV.out k hlt
      have HN := Lib.hid (hL_succ e o t ps zs ws b k)
      have HB := Lib.hid (show decide (t * o ≤ 1000 * btF e ps zs ws k b) = hB e o t ps zs ws b k from rfl)
      have K5 := KB.out k hlt
      have HLn := Lib.hid (hL_len e o t ps zs ws b k)
      generalize btF e ps zs ws k b = s at *
      generalize hL e o t ps zs ws b k = L at *
      obtain ⟨v0, v1⟩ := hv
      have K6 := fun w => KRr.out s w v0 v1
      rw [HB.out] at K6
      generalize hB e o t ps zs ws b k = hb at *
      have K5 := Lib.hid K5
      have K6 := Lib.hid K6
      clear v0 v1
      have hkI : (k : Int) < (l0 : Int) := by omega
      go_wp2_with fail
      refine (K5.out _ (HF1.out.noTrans HFr.out)).mono ?_
      rintro e' w5 ⟨rfl, f5⟩
      obtain ⟨p0, p1, p2, p3, p4, p5⟩ := KS.out _ _ f5 r0 r1 r2 r3 r4 r5
      have HF5 := Lib.hid (HFr.out.noTrans f5)
      have HO := Lib.hid (ho.out.kept f5)
      clear ho f5 r0 r1 r2 r3 r4 r5
      go_wp2_with fail
      refine (K6.out _).mono ?_
      rintro e6 w6 ⟨rfl, rfl⟩
      cases hb
      · go_wp2_with fail
        exact ⟨⟨k + 1, by omega, by go_num, by rw [HN.out]; simpa using HO, HF5.out⟩, by simp [intOf]; omega⟩
      · have hown : World.ownsRow w6 y1.heap.size 3 1 u6 L.length (vals L) := HO.out
        go_wp2_with (at_builtin; refine wpList_append_own _ rfl (.tmp 43) (.tmp 45) 31 rfl y1.heap.size 3 i0 (.int .i64 0) 1 8 Try.underlying31 hi hz0 hz1 hz2 rfl (by decide) _ _ _ rfl (hown.alloc _) ⟨w6.heap.size, 0, none⟩ 1 1 [.int .i64 (k : Int)] rfl rfl ?c1 ?c2 ?c3 ?c4 ?c5 ?_)
        try (case c1 => exact World.news_of_block (cs := #[.int .i64 (k : Int)]) (t := 3) (fr := (0, 0)) (heap_alloc_new w6 _))
        case c2 => simp [Value.oneCell']
        case c3 => have := HLn.out; unfold maxLen; omega
        case c4 => have := HLn.out; omega
        case c5 => have := HF5.out.size; simp; omega
        intro v' w7 hown7 hgrow7 _
        have hF7 : Fr no y1 w7 := (HF5.out.alloc _).grown hgrow7 (fun j hj => .inr (own_geI hown j hj))
        have HF7 := Lib.hid hF7
        have hO7 : Own y1.heap.size w7 v' (L ++ [k]) := by
          unfold Own vals
          rw [List.length_append, List.map_append]
          exact hown7
        have HO7 := Lib.hid hO7
        clear hF7 hO7 hown7 hgrow7
        go_wp2_with fail
        exact ⟨⟨k + 1, by omega, by go_num, by rw [HN.out]; simpa using HO7, HF7.out⟩, by simp [intOf]; omega⟩
    · obtain rfl : k = l0 := by omega
      go_wp2_with fail
      go_ret2
      exact ⟨_, rfl, World.ownsRow.mono ho.out HS.out, HF1.out.noTrans HFr.out⟩
end Go.Proofs.Ytljfdoabgbioiaa
