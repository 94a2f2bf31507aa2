/- The packed texts Im19. -/
import Derived.Test.YtbnkbbcncloedaaGreatDoorRows
import Derived.WalkKit
import Derived.ProofKit
import Derived.OpenShut
import Derived.WalkLawsBesides
import Derived.Below
import Derived.BigQuiet
import Derived.Lib.QuietBelow
import Derived.Lib.AtoiErrMem
import Derived.Deep.OwnRows
import Derived.Deep.DeepCutAuto
import Derived.RangeFuncNested
import Derived.RangeFuncBound
import Derived.RangeFuncCalls
import Derived.RangeFuncLeaves
import Derived.OwnWalkIn
import Derived.TacticsInMore
import Derived.LoopNIn
import Derived.LoopIn
import Derived.Shelf.Abstract
import Derived.Maps.AppendAt
import Derived.OwnWalk
import Derived.Lib.LaidTab
import Derived.Laws.BitsAllLaws
import Derived.Laws.Closers25b
import Derived.Laws.EntriesVeiled
import Derived.Deep.RegionWith
import Derived.Laws.MathBits
import Derived.Shelf.Spec.BitsCarry
import Derived.Laws.CopyOwn
import Derived.Deep.RegionLaw
import Derived.Lib.SliceRun
import Derived.Laws.Tables
import Derived.Lib.SmallJoins
import Derived.Deep.RegionHeld3
import Derived.RangeFuncBox
import Derived.Deep.Slices
import Derived.SizedLaws
import Derived.Test.YtbnkbbcncloedaaGreatDoorPk1
import Derived.Test.YtbnkbbcncloedaaGreatDoorPk2
import Derived.Test.YtbnkbbcncloedaaGreatDoorPk3
import Derived.Test.YtbnkbbcncloedaaGreatDoorPk4
import Derived.Test.YtbnkbbcncloedaaGreatDoorPk5
import Derived.Test.YtbnkbbcncloedaaGreatDoorPk6
import Derived.Test.YtbnkbbcncloedaaGreatDoorPk7
import Derived.Test.YtbnkbbcncloedaaGreatDoorPk9
import Derived.Test.YtbnkbbcncloedaaGreatDoorPk10
import Derived.Test.YtbnkbbcncloedaaGreatDoorPk17
import Derived.Test.YtbnkbbcncloedaaGreatDoorPk25
import Derived.Test.YtbnkbbcncloedaaGreatDoorPk26
import Derived.Test.YtbnkbbcncloedaaGreatDoorPk30
import Derived.Test.YtbnkbbcncloedaaGreatDoorPk37
import Derived.Test.YtbnkbbcncloedaaGreatDoorPk38
import Derived.Test.YtbnkbbcncloedaaGreatDoorPk39
import Derived.Test.YtbnkbbcncloedaaGreatDoorPk43
namespace Go.Proofs.YtbnkbbcncloedaaGreatDoor
section
open Go.ChangeShapes Go.WideShapes Go.ChangeAt Go.RowKit

set_option linter.unusedVariables false

set_option linter.unusedSimpArgs false

theorem tysOf_ne (l : List (Nat × Nat × Int)) : ∀ t ∈ tysOf l, t ≠ 0 := by
  induction l with
  | nil => intro t h; cases h
  | cons x r ih =>
    obtain ⟨p, q, u⟩ := x
    intro t h
    simp only [tysOf] at h
    split at h
    · exact ih t h
    · rename_i hu
      rcases List.mem_cons.1 h with rfl | h
      · exact hu
      · exact ih t h

theorem tysD_ne {f : FnD} (h : sigB f = true) : ∀ t ∈ tysD f, t ≠ 0 := by
  intro t ht
  unfold tysD at ht
  rcases List.mem_append.1 ht with h1 | h1
  · unfold sigB at h
    simp only [Bool.and_eq_true] at h
    have := List.all_eq_true.1 h.2.1 t h1
    intro e
    rw [e] at this
    revert this
    decide
  · exact tysOf_ne _ t h1

theorem inN_le {bs : List (List InD)} {ys : List InD} {x : InD} (h : ys ∈ bs) (hx : x ∈ ys) : inN x ≤ blsN bs := by
  obtain ⟨a, c, rfl⟩ := List.append_of_mem h
  obtain ⟨d, e, rfl⟩ := List.append_of_mem hx
  have h1 := blsN_nn a
  have h2 := blsN_nn c
  have h3 := insN_nn d
  have h4 := insN_nn e
  unfold blsN insN at *
  simp only [List.map_append, List.map_cons, List.sum_append, List.sum_cons, blN, insN, List.length_append, List.length_cons]
  omega

structure BdI (w : World) (R SB : Nat) (sc : Array Value) (av : Option Addr) (ts : List Int) (W : World) : Prop where
  b : Below w.heap.size w W
  r : W.heap[R]? = some (Go.Obj.cells #[.int .i64 0, .int .i64 0, .int .i64 0, .int .i64 0] 28)
  s : W.heap[SB]? = some (Go.Obj.cells sc 140)
  v : ∃ bv ov, (0 < ts.length → av = some ⟨bv, ov, none⟩) ∧ (0 < ts.length → bv ≠ SB) ∧ ∀ i (h : i < ts.length), At W bv (ov + i) (.int .i64 ts[i])

theorem BdI.keep {w : World} {R SB : Nat} {sc : Array Value} {av : Option Addr} {ts : List Int} {W W' : World} (h : BdI w R SB sc av ts W) (hb : Below W.heap.size W W') : BdI w R SB sc av ts W' :=
  ⟨bel_trans h.b hb, kept_at h.r hb, kept_at h.s hb, by
    obtain ⟨bv, ov, e, n, c⟩ := h.v
    exact ⟨bv, ov, e, n, fun i hi => at_keep (c i hi) hb⟩⟩

theorem BdI.set {w : World} {R SB : Nat} {sc ds : Array Value} {av : Option Addr} {ts : List Int} {W : World} (h : BdI w R SB sc av ts W) (i : Nat) (x : Value) (hd : sc.setIfInBounds i x = ds) (hR : R ≠ SB) (hl : w.heap.size ≤ SB) : BdI w R SB ds av ts (W.setCell ⟨SB, i, none⟩ x) :=
  ⟨bel_set h.b hl _, setO h.r _ hR, setI h.s _ hd, by
    obtain ⟨bv, ov, e, n, c⟩ := h.v
    exact ⟨bv, ov, e, n, fun j hj => set_other (c j hj) (.inl (n (by omega)))⟩⟩

set_option maxRecDepth 100000 in
set_option maxHeartbeats 4000000 in
theorem bodI (gs : List GlD) (fs : List FnD) (vg vf : Value) (k : Nat) (w : World) {lo : Nat} (h : MoAt lo w gs fs vg vf) (hk : k < fs.length) (hn : moN gs fs ≤ 1048576) (hbd : MoB gs fs) (hw : Wid w) (hsig : sigB fs[k] = true) :
    Calls Tryz.prog 35 #[.agg #[vg, vf], .int .i64 k] w fun e w' => e = .returned (ftV ((boF gs.length fs (calD fs k) k).getD (0, 0, 0, 0))) ∧ Below w.heap.size w w' := by
  have hsz : fnN fs[k] ≤ 1048576 := by
    have q := fnN_le (List.getElem_mem hk)
    have := glsN_nn gs
    unfold moN at hn
    omega
  have hfB := hbd.f _ (List.getElem_mem hk)
  have hTN := tysD_ne hsig
  rw [calD_get hk]
  obtain ⟨ag, kg, rfl⟩ := h.g.shape
  obtain ⟨b, o, ⟨⟨af, kf, rfl, s1, s2⟩, s3⟩, -, hc⟩ := h.f.ex
  have g1 : (fs.length : Int) ≤ 140737488355328 := by omega
  obtain rfl := s2 (by omega)
  obtain ⟨vp, vb, hf⟩ := hc k hk
  obtain ⟨W0, hW⟩ : ∃ W0, W0 = (w.alloc (Go.Obj.cells #[.slice ag gs.length kg, .slice (some ⟨b, o, none⟩) fs.length kf] 33)).alloc (Go.Obj.cells #[.int .i64 0, .int .i64 0, .int .i64 0, .int .i64 0] 28) := ⟨_, rfl⟩
  have B0 : Below w.heap.size w W0 := by rw [hW]; exact bel_trans (bel_alloc _ _) (bel_alloc _ _)
  have hz0 : Kp (W0.heap.size = w.heap.size + 1 + 1) := ⟨by rw [hW]; simp⟩
  have mC0 : W0.heap[w.heap.size]? = some (Go.Obj.cells #[.slice ag gs.length kg, .slice (some ⟨b, o, none⟩) fs.length kf] 33) := by rw [hW]; exact kept_at (new_at w _) (bel_alloc _ _)
  have rC0 : W0.heap[w.heap.size + 1]? = some (Go.Obj.cells #[.int .i64 0, .int .i64 0, .int .i64 0, .int .i64 0] 28) := by
    rw [hW]
    have := new_at (w.alloc (Go.Obj.cells #[.slice ag gs.length kg, .slice (some ⟨b, o, none⟩) fs.length kf] 33)) (Go.Obj.cells #[.int .i64 0, .int .i64 0, .int .i64 0, .int .i64 0] 28)
    rwa [World.size_alloc] at this
  have hk' : (k : Int) < fs.length := by omega
  generalize hX : fs[k] = X at *
  obtain ⟨name, link, params, res, blocks⟩ := X
  try dsimp only at *
  have hF' := hf.f
  obtain ⟨hnm, hp, hb⟩ := hF'
  obtain ⟨_, _, ⟨⟨ap, kp, rfl, -, -⟩, -⟩, -, -⟩ := hp.ex
  obtain ⟨b4, o4, ⟨⟨ab, kb, rfl, z1, z2⟩, z3⟩, -, hbc⟩ := hb.ex
  try dsimp only at *
  have g4 : (blocks.length : Int) ≤ 140737488355328 := by omega
  have CV : Kp (∀ W, Below W0.heap.size W0 W → Calls Tryz.prog 83 #[.agg #[.string name, .int .i64 link, .slice ap params.length kp, .int .i64 res, .slice ab blocks.length kb]] W fun e w' => ∃ v, e = .returned v ∧ OwnI w' W.heap.size v (params ++ tysOf (blPl 0 blocks)) ∧ Below W.heap.size W w') := ⟨fun W hB => valTyI ⟨name, link, params, res, blocks⟩ _ _ W (hf.f.keep (bel_trans B0 hB)) hsz⟩
  have hTL := tysD_len ⟨name, link, params, res, blocks⟩ hsz
  obtain ⟨ts, hts⟩ : ∃ ts, ts = tysD ⟨name, link, params, res, blocks⟩ := ⟨_, rfl⟩
  rw [show params ++ tysOf (blPl 0 blocks) = tysD ⟨name, link, params, res, blocks⟩ from rfl, ← hts] at CV
  rw [← hts] at hTL hTN
  have BC : Kp (∀ W, Below w.heap.size w W → ∀ j (h : j < blocks.length), ∃ vi, At W b4 (o4 + j) vi ∧ Ins lo W vi (blocks.getD j [])) := ⟨fun W hB j hj => by
    obtain ⟨vi, q, r⟩ := hbc j hj
    rw [show blocks.getD j [] = blocks[j] by simp [List.getD_eq_getElem?_getD, hj]]
    exact ⟨vi, at_keep q hB, r.keep hB⟩⟩
  have BC0 : Kp (∀ j (h : j < blocks.length), ∃ vi, At w b4 (o4 + j) vi ∧ Ins lo w vi (blocks.getD j [])) := ⟨fun j hj => by
    obtain ⟨vi, q, r⟩ := hbc j hj
    rw [show blocks.getD j [] = blocks[j] by simp [List.getD_eq_getElem?_getD, hj]]
    exact ⟨vi, q, r⟩⟩
  have hnb : Kp (∀ j (hj : j < blocks.length), ∀ x ∈ blocks.getD j [], InB x ∧ inN x ≤ 1048576) := ⟨fun j hj x hx => by
    rw [show blocks.getD j [] = blocks[j] by simp [List.getD_eq_getElem?_getD, hj]] at hx
    refine ⟨hfB.b _ (List.getElem_mem hj) x hx, ?_⟩
    have := inN_le (List.getElem_mem hj) hx
    unfold fnN at hsz
    dsimp only at hsz
    omega⟩
  have SK : Kp (∀ W, Below W0.heap.size W0 W → (fun W' => Below W0.heap.size W0 W' ∧ W'.cell? ⟨w.heap.size, 0, none⟩ = some (.slice ag gs.length kg) ∧ W'.cell? ⟨w.heap.size, 1, none⟩ = some (.slice (some ⟨b, o, none⟩) fs.length kf) ∧ W'.cell? ⟨b, o + k * 5, none⟩ = some (.string name) ∧ W'.cell? ⟨b, o + k * 5 + 1, none⟩ = some (.int .i64 link) ∧ W'.cell? ⟨b, o + k * 5 + 2, none⟩ = some (.slice ap params.length kp) ∧ W'.cell? ⟨b, o + k * 5 + 3, none⟩ = some (.int .i64 res) ∧ W'.cell? ⟨b, o + k * 5 + 4, none⟩ = some (.slice ab blocks.length kb)) W) := ⟨fun W hB => have q := hf.keep (bel_trans B0 hB); ⟨hB, cells_at (kept_at mC0 hB) rfl, cells_at (kept_at mC0 hB) rfl, q.c0, q.c1, q.c2, q.c3, q.c4⟩⟩
  have FI : Kp (∀ W (av : Option Addr) (cv : Nat) (bk : Nat) (R' SB : Nat) (sc : Array Value), ts.length ≤ cv → BdI w R' SB sc av ts W → ∀ (hB : bk < blocks.length) (ai : Option Addr) (ki i : Nat), Ins lo W (.slice ai (blocks.getD bk []).length ki) (blocks.getD bk []) → i < (blocks.getD bk []).length → (∀ j, j < i → atF gs.length ts fs ⟨name, link, params, res, blocks⟩ bk (blocks.getD bk []) j = 0) → Calls Tryz.prog 84 #[.agg #[.slice ag gs.length kg, .slice (some ⟨b, o, none⟩) fs.length kf, .string name, .int .i64 link, .slice ap params.length kp, .int .i64 res, .slice ab blocks.length kb, .slice av ts.length cv, .int .i64 bk], .slice ai (blocks.getD bk []).length ki, .int .i64 i] W fun e w' => e = .returned (.int .i64 (atF gs.length ts fs ⟨name, link, params, res, blocks⟩ bk (blocks.getD bk []) i)) ∧ Below W.heap.size W w') := ⟨fun W av cv bk R' SB sc hcv hI hB ai ki i hy hi hprev => by
    have htt : Ints 0 .i64 W (.slice av ts.length cv) ts := by
      obtain ⟨bv, ov, e, n, c⟩ := hI.v
      exact ⟨bv, ov, ⟨⟨av, cv, rfl, hcv, e⟩, by omega⟩, Nat.zero_le _, c⟩
    exact fatI gs fs ts ag (some ⟨b, o, none⟩) ap ab av params blocks kg kf kp kb cv name link res bk ai ki (blocks.getD bk []) i W (h.keep hI.b) htt hy (hw.below hI.b) hi (fun x hx => (hnb.out bk hB x hx).1) (fun x hx => (hnb.out bk hB x hx).2) hTN z3 hprev⟩
  obtain ⟨R, hR⟩ : ∃ R, R = boF gs.length fs ⟨name, link, params, res, blocks⟩ k := ⟨_, rfl⟩
  rw [← hR]
  have RB : Kp (R = firstF (fun j => blF gs.length ts fs ⟨name, link, params, res, blocks⟩ k j (blocks.getD j [])) blocks.length) := ⟨by rw [hR, hts]; rfl⟩
  generalize hPF : (⟨name, link, params, res, blocks⟩ : FnD) = F at *
  replace hPF := Kp.mk hPF
  replace hW := Kp.mk hW
  have zab := Kp.mk z2
  clear z2
  have hTL' := Kp.mk hTL
  have hb0 := (Below.refl W0.heap.size W0).drew
  have IV0 : Kp (∀ W, Below W0.heap.size W0 W → W.heap[w.heap.size + 1]? = some (Go.Obj.cells #[.int .i64 0, .int .i64 0, .int .i64 0, .int .i64 0] 28) ∧ Below w.heap.size w W) := ⟨fun W hB => ⟨kept_at rC0 hB, bel_trans B0 hB⟩⟩
  clear hR hts hX hp hb hbc hf hc s2 hfB hbd hsz hn h mC0 rC0 hsig hTN hnb hw hTL
  go_enter Tryz.func35, Tryz.ntmps35
  go_upto_region 1 with fail
  rw [← hW.out]
  refine wp_region_held_drew (S := fun W' => Below W0.heap.size W0 W' ∧ W'.cell? ⟨w.heap.size, 0, none⟩ = some (.slice ag gs.length kg) ∧ W'.cell? ⟨w.heap.size, 1, none⟩ = some (.slice (some ⟨b, o, none⟩) fs.length kf) ∧ W'.cell? ⟨b, o + k * 5, none⟩ = some (.string name) ∧ W'.cell? ⟨b, o + k * 5 + 1, none⟩ = some (.int .i64 link) ∧ W'.cell? ⟨b, o + k * 5 + 2, none⟩ = some (.slice ap params.length kp) ∧ W'.cell? ⟨b, o + k * 5 + 3, none⟩ = some (.int .i64 res) ∧ W'.cell? ⟨b, o + k * 5 + 4, none⟩ = some (.slice ab blocks.length kb)) (by kernel_rfl) (SK.out _ hb0) (fun hHeld => ?_)
  refine wpAnyH_take (i := 0) (v := .agg #[.slice ag gs.length kg, .slice (some ⟨b, o, none⟩) fs.length kf]) rfl (by kernel_rfl) (by kernel_rfl) (by kernel_rfl) (fun _ _ _ h => h) (Or.inl ⟨by rfl, fun wq hSw => by (try dsimp only at hSw); go_simp⟩) hHeld ?_
  try simp only [Act.put, yA, yB, yC, yD, yE, yF]
  refine wpAnyH_take (i := 1) (v := .pointer (some ⟨w.heap.size, 1, none⟩)) rfl (by kernel_rfl) (by kernel_rfl) (by kernel_rfl) (fun _ _ _ h => h) (Or.inl ⟨by rfl, fun wq hSw => by (try dsimp only at hSw); go_simp⟩) hHeld ?_
  try simp only [Act.put, yA, yB, yC, yD, yE, yF]
  refine wpAnyH_take (i := 2) (v := .slice (some ⟨b, o, none⟩) fs.length kf) rfl (by kernel_rfl) (by kernel_rfl) (by kernel_rfl) (fun _ _ _ h => h) (Or.inl ⟨by rfl, fun wq hSw => by (try dsimp only at hSw); go_simp⟩) hHeld ?_
  try simp only [Act.put, yA, yB, yC, yD, yE, yF]
  refine wpAnyH_take (i := 3) (v := .int .i64 k) rfl (by kernel_rfl) (by kernel_rfl) (by kernel_rfl) (fun _ _ _ h => h) (Or.inl ⟨by rfl, fun wq hSw => by (try dsimp only at hSw); go_simp⟩) hHeld ?_
  try simp only [Act.put, yA, yB, yC, yD, yE, yF]
  refine wpAnyH_take (i := 4) (v := .pointer (some ⟨b, o + k * 5, none⟩)) rfl (by kernel_rfl) (by kernel_rfl) (by kernel_rfl) (fun _ _ _ h => h) (Or.inl ⟨by rfl, fun wq hSw => by (try dsimp only at hSw); go_simp⟩) hHeld ?_
  try simp only [Act.put, yA, yB, yC, yD, yE, yF]
  refine wpAnyH_take (i := 5) (v := .agg #[.string name, .int .i64 link, .slice ap params.length kp, .int .i64 res, .slice ab blocks.length kb]) rfl (by kernel_rfl) (by kernel_rfl) (by kernel_rfl) (fun _ _ _ h => h) (Or.inl ⟨by rfl, fun wq hSw => by (try dsimp only at hSw); go_simp⟩) hHeld ?_
  try simp only [Act.put, yA, yB, yC, yD, yE, yF]
  refine wpAnyH_take (i := 6) (v := .pointer (some ⟨w.heap.size, 1, none⟩)) rfl (by kernel_rfl) (by kernel_rfl) (by kernel_rfl) (fun _ _ _ h => h) (Or.inl ⟨by rfl, fun wq hSw => by (try dsimp only at hSw); go_simp⟩) hHeld ?_
  try simp only [Act.put, yA, yB, yC, yD, yE, yF]
  refine wpAnyH_take (i := 7) (v := .slice (some ⟨b, o, none⟩) fs.length kf) rfl (by kernel_rfl) (by kernel_rfl) (by kernel_rfl) (fun _ _ _ h => h) (Or.inl ⟨by rfl, fun wq hSw => by (try dsimp only at hSw); go_simp⟩) hHeld ?_
  try simp only [Act.put, yA, yB, yC, yD, yE, yF]
  refine wpAnyH_take (i := 8) (v := .int .i64 k) rfl (by kernel_rfl) (by kernel_rfl) (by kernel_rfl) (fun _ _ _ h => h) (Or.inl ⟨by rfl, fun wq hSw => by (try dsimp only at hSw); go_simp⟩) hHeld ?_
  try simp only [Act.put, yA, yB, yC, yD, yE, yF]
  refine wpAnyH_take (i := 9) (v := .pointer (some ⟨b, o + k * 5, none⟩)) rfl (by kernel_rfl) (by kernel_rfl) (by kernel_rfl) (fun _ _ _ h => h) (Or.inl ⟨by rfl, fun wq hSw => by (try dsimp only at hSw); go_simp⟩) hHeld ?_
  try simp only [Act.put, yA, yB, yC, yD, yE, yF]
  refine wpAnyH_take (i := 10) (v := .agg #[.string name, .int .i64 link, .slice ap params.length kp, .int .i64 res, .slice ab blocks.length kb]) rfl (by kernel_rfl) (by kernel_rfl) (by kernel_rfl) (fun _ _ _ h => h) (Or.inl ⟨by rfl, fun wq hSw => by (try dsimp only at hSw); go_simp⟩) hHeld ?_
  try simp only [Act.put, yA, yB, yC, yD, yE, yF]
  refine wpAnyH_ready (rs := [11, 13]) (by kernel_rfl) (by simp) ?_
  refine AllReadyH.cons rfl (fun K hK => ?_) (AllReadyH.cons rfl (fun K hK => ?_) AllReadyH.nil)
  · go_simp
    refine (CV.out _ hb0).mono ?_
    rintro e w1 ⟨vt, rfl, hown, hb⟩
    have hb1 := hb0.trans hb
    have hints := hown.ints hTL'.out
    obtain ⟨av, cv, rfl⟩ := hints.shape
    refine hK.out _ _ (SK.out _ hb1) (fun hHeld => ?_)
    clear hK K
    try simp only [Act.put, yA, yB, yC, yD, yE, yF]
    refine wpAnyH_take (i := 12) (v := .agg #[.slice ag gs.length kg, .slice (some ⟨b, o, none⟩) fs.length kf, .string name, .int .i64 link, .slice ap params.length kp, .int .i64 res, .slice ab blocks.length kb, .slice av ts.length cv, .int .i64 0]) rfl (by kernel_rfl) (by kernel_rfl) (by kernel_rfl) (fun _ _ _ h => h) (Or.inl ⟨by rfl, fun wq hSw => by (try dsimp only at hSw); go_simp⟩) hHeld ?_
    try simp only [Act.put, yA, yB, yC, yD, yE, yF]
    refine wpAnyH_ready (rs := [13]) (by kernel_rfl) (by simp) ?_
    refine AllReadyH.cons rfl (fun K hK => ?_) AllReadyH.nil
    go_simp
    obtain ⟨w2, hw2⟩ : ∃ w2, w2 = w1.alloc (Go.Obj.cells #[.slice none 0 0, .slice none 0 0, .string ⟨#[]⟩, .int .i64 0, .slice none 0 0, .int .i64 0, .slice none 0 0, .slice none 0 0, .int .i64 0] 140) := ⟨_, rfl⟩
    rw [← hw2]
    have hb2 : Below w1.heap.size w1 w2 := by rw [hw2]; exact bel_alloc _ _
    have z2 : w2.heap[w1.heap.size]? = some (Go.Obj.cells #[.slice none 0 0, .slice none 0 0, .string ⟨#[]⟩, .int .i64 0, .slice none 0 0, .int .i64 0, .slice none 0 0, .slice none 0 0, .int .i64 0] 140) := by rw [hw2]; exact new_at w1 _
    have hB2 := bel_trans hb1 hb2
    refine hK.out _ _ (SK.out _ hB2) (fun hHeld => ?_)
    clear hK K
    try simp only [Act.put, yA, yB, yC, yD, yE, yF]
    have hle0 : W0.heap.size ≤ w1.heap.size := hb1.size
    have hle : w.heap.size ≤ w1.heap.size := by have := hz0.out; omega
    have hne : w.heap.size + 1 ≠ w1.heap.size := by have := hz0.out; omega
    have hcv : ts.length ≤ cv := by
      obtain ⟨_, _, ⟨⟨_, _, e, l, _⟩, _⟩, _⟩ := hints.ex
      injection e with _ _ e3
      omega
    have I0 : BdI w (w.heap.size + 1) w1.heap.size #[.slice none 0 0, .slice none 0 0, .string ⟨#[]⟩, .int .i64 0, .slice none 0 0, .int .i64 0, .slice none 0 0, .slice none 0 0, .int .i64 0] av ts w2 := ⟨(IV0.out _ hB2).2, (IV0.out _ hB2).1, z2, by
      obtain ⟨bv, ov, ⟨⟨_, _, e, _, p⟩, _⟩, _, c⟩ := hints.ex
      injection e with e1 _ _
      subst e1
      exact ⟨bv, ov, p, fun h0 => by have l : bv < w1.heap.size := Lib.lt_of_cell (c 0 h0); omega, fun i hi => at_keep (c i hi) hb2⟩⟩
    replace hw2 := Kp.mk hw2
    clear hown hints hb
    have e0 : At w2 w1.heap.size 0 _ := cells_at z2 rfl
    have e1 : At w2 w1.heap.size 1 _ := cells_at z2 rfl
    have e2 : At w2 w1.heap.size 2 _ := cells_at z2 rfl
    have e3 : At w2 w1.heap.size 3 _ := cells_at z2 rfl
    have e4 : At w2 w1.heap.size 4 _ := cells_at z2 rfl
    have e5 : At w2 w1.heap.size 5 _ := cells_at z2 rfl
    have e6 : At w2 w1.heap.size 6 _ := cells_at z2 rfl
    have e7 : At w2 w1.heap.size 7 _ := cells_at z2 rfl
    have e8 : At w2 w1.heap.size 8 _ := cells_at z2 rfl
    have fz := rw_cells z2
    have f0 := fz 0
    have f1 := fz 1
    have f2 := fz 2
    have f3 := fz 3
    have f4 := fz 4
    have f5 := fz 5
    have f6 := fz 6
    have f7 := fz 7
    have f8 := fz 8
    clear fz
    refine wpAnyH_ready (rs := [14]) (by kernel_rfl) (by simp) ?_
    refine AllReadyH.cons rfl (fun K hK => ?_) AllReadyH.nil
    go_simp
    refine hK.out _ _ (SK.out _ (belNine hB2 hle0 (.slice ag gs.length kg) (.slice (some ⟨b, o, none⟩) fs.length kf) (.string name) (.int .i64 link) (.slice ap params.length kp) (.int .i64 res) (.slice ab blocks.length kb) (.slice av ts.length cv) (.int .i64 0))) (fun hHeld => ?_)
    clear hK K
    try simp only [Act.put, yA, yB, yC, yD, yE, yF]
    refine wpAnyH_done (by kernel_rfl) ?_ _
    have I1 := (((((((((I0.set (ds := #[.slice ag gs.length kg, .slice none 0 0, .string ⟨#[]⟩, .int .i64 0, .slice none 0 0, .int .i64 0, .slice none 0 0, .slice none 0 0, .int .i64 0]) 0 (.slice ag gs.length kg) rfl hne hle).set (ds := #[.slice ag gs.length kg, .slice (some ⟨b, o, none⟩) fs.length kf, .string ⟨#[]⟩, .int .i64 0, .slice none 0 0, .int .i64 0, .slice none 0 0, .slice none 0 0, .int .i64 0]) 1 (.slice (some ⟨b, o, none⟩) fs.length kf) rfl hne hle).set (ds := #[.slice ag gs.length kg, .slice (some ⟨b, o, none⟩) fs.length kf, .string name, .int .i64 0, .slice none 0 0, .int .i64 0, .slice none 0 0, .slice none 0 0, .int .i64 0]) 2 (.string name) rfl hne hle).set (ds := #[.slice ag gs.length kg, .slice (some ⟨b, o, none⟩) fs.length kf, .string name, .int .i64 link, .slice none 0 0, .int .i64 0, .slice none 0 0, .slice none 0 0, .int .i64 0]) 3 (.int .i64 link) rfl hne hle).set (ds := #[.slice ag gs.length kg, .slice (some ⟨b, o, none⟩) fs.length kf, .string name, .int .i64 link, .slice ap params.length kp, .int .i64 0, .slice none 0 0, .slice none 0 0, .int .i64 0]) 4 (.slice ap params.length kp) rfl hne hle).set (ds := #[.slice ag gs.length kg, .slice (some ⟨b, o, none⟩) fs.length kf, .string name, .int .i64 link, .slice ap params.length kp, .int .i64 res, .slice none 0 0, .slice none 0 0, .int .i64 0]) 5 (.int .i64 res) rfl hne hle).set (ds := #[.slice ag gs.length kg, .slice (some ⟨b, o, none⟩) fs.length kf, .string name, .int .i64 link, .slice ap params.length kp, .int .i64 res, .slice ab blocks.length kb, .slice none 0 0, .int .i64 0]) 6 (.slice ab blocks.length kb) rfl hne hle).set (ds := #[.slice ag gs.length kg, .slice (some ⟨b, o, none⟩) fs.length kf, .string name, .int .i64 link, .slice ap params.length kp, .int .i64 res, .slice ab blocks.length kb, .slice av ts.length cv, .int .i64 0]) 7 (.slice av ts.length cv) rfl hne hle).set (ds := #[.slice ag gs.length kg, .slice (some ⟨b, o, none⟩) fs.length kf, .string name, .int .i64 link, .slice ap params.length kp, .int .i64 res, .slice ab blocks.length kb, .slice av ts.length cv, .int .i64 0]) 8 (.int .i64 0) rfl hne hle)
    clear e0 f0
    clear e1 f1
    clear e2 f2
    clear e3 f3
    clear e4 f4
    clear e5 f5
    clear e6 f6
    clear e7 f7
    clear e8 f8
    obtain ⟨w3, hw3⟩ : ∃ w3, w3 = (((((((((w2.setCell ⟨w1.heap.size, 0, none⟩ (.slice ag gs.length kg)).setCell ⟨w1.heap.size, 1, none⟩ (.slice (some ⟨b, o, none⟩) fs.length kf)).setCell ⟨w1.heap.size, 2, none⟩ (.string name)).setCell ⟨w1.heap.size, 3, none⟩ (.int .i64 link)).setCell ⟨w1.heap.size, 4, none⟩ (.slice ap params.length kp)).setCell ⟨w1.heap.size, 5, none⟩ (.int .i64 res)).setCell ⟨w1.heap.size, 6, none⟩ (.slice ab blocks.length kb)).setCell ⟨w1.heap.size, 7, none⟩ (.slice av ts.length cv)).setCell ⟨w1.heap.size, 8, none⟩ (.int .i64 0)) := ⟨_, rfl⟩
    rw [← hw3] at I1
    skip
    obtain ⟨SB, hSB⟩ : ∃ SB, SB = w1.heap.size := ⟨_, rfl⟩
    rw [← hSB] at I1 hle hne hw3 ⊢
    rw [← hw3]
    replace hw3 := Kp.mk hw3
    replace hSB := Kp.mk hSB
    clear I0 z2 hB2 hb1 hb2 hle0 hHeld
    clear SK IV0 CV hb0
    have q6 : At w3 SB 6 _ := cells_at I1.s rfl
    have I1K := Kp.mk I1
    clear I1
    go_wp2_with fail
    go_loopw [27] (fun r wr => ∃ B bk : Nat, B ≤ blocks.length ∧ r = .int .i64 B ∧ Kp (∀ j, j < B → blF gs.length ts fs F k j (blocks.getD j []) = none) ∧ Kp (BdI w (w.heap.size + 1) SB #[.slice ag gs.length kg, .slice (some ⟨b, o, none⟩) fs.length kf, .string name, .int .i64 link, .slice ap params.length kp, .int .i64 res, .slice ab blocks.length kb, .slice av ts.length cv, .int .i64 bk] av ts wr)) (fun r _ => blocks.length - (intOf r).toNat)
    case atStart => exact ⟨0, 0, Nat.zero_le _, rfl, ⟨fun j hj => absurd hj (by omega)⟩, I1K⟩
    case round =>
      clear q6 I1K
      obtain ⟨B, bk, hBl, rfl, hd, hI⟩ := hrel
      by_cases hlt : B < blocks.length
      · obtain rfl := zab.out (by omega)
        have hlt' : (B : Int) < (blocks.length : Int) := by omega
        obtain ⟨vi, c0, hv⟩ := BC.out _ hI.out.b B hlt
        have FIB := Kp.mk (fun W ai ki i I hy hi hp => FI.out W av cv B (w.heap.size + 1) SB #[.slice ag gs.length kg, .slice (some ⟨b, o, none⟩) fs.length kf, .string name, .int .i64 link, .slice ap params.length kp, .int .i64 res, .slice (some ⟨b4, o4, none⟩) blocks.length kb, .slice av ts.length cv, .int .i64 B] hcv I hlt ai ki i hy hi hp)
        have hget := Kp.mk (fun (x : FtD) (hq : blF gs.length ts fs F k B (blocks.getD B []) = some x) => show R = some x by rw [RB.out]; exact firstF_hit hlt hd.out hq)
        have hnone := Kp.mk (fun (hq : blF gs.length ts fs F k B (blocks.getD B []) = none) => show ∀ j, j < B + 1 → blF gs.length ts fs F k j (blocks.getD j []) = none from fun j hj => by
          by_cases e : j = B
          · rw [e]; exact hq
          · exact hd.out j (by omega))
        have BCi0 : Kp (∀ W, Below w.heap.size w W → ∃ vi, At W b4 (o4 + B) vi ∧ Ins lo W vi (blocks.getD B [])) := ⟨fun W hW => BC.out W hW B hlt⟩
        have hBase := Kp.mk (BC0.out B hlt)
        generalize blocks.getD B [] = ys at *
        obtain ⟨vi0, c00, hv0⟩ := hBase.out
        obtain ⟨bi, oi, ⟨⟨ai, ki, rfl, i1, i2⟩, i3⟩, -, -⟩ := hv.ex
        have g5 : (ys.length : Int) ≤ 140737488355328 := by omega
        have hvi : vi0 = .slice ai ys.length ki := by
          have q := at_keep c00 hI.out.b
          exact Option.some.inj (q.symm.trans c0)
        rw [hvi] at hv0
        have BCi : Kp (∀ W, Below w.heap.size w W → Ins lo W (.slice ai ys.length ki) ys) := ⟨fun W hW => hv0.keep hW⟩
        clear hBase BCi0 hvi c00 hv0
        obtain ⟨w5, hw5⟩ : ∃ w5, w5 = wr.alloc (Go.Obj.cells #[.slice ai ys.length ki] 78) := ⟨_, rfl⟩
        have hb5 : Below wr.heap.size wr w5 := by rw [hw5]; exact bel_alloc _ _
        have x5 : w5.heap[wr.heap.size]? = some (Go.Obj.cells #[.slice ai ys.length ki] 78) := by rw [hw5]; exact new_at wr _
        have I5 := hI.out.keep hb5
        have e8 : At w5 SB 8 _ := cells_at I5.s rfl
        have f8 := rw_cells I5.s 8
        obtain ⟨WBB, hWBB⟩ : ∃ WBB, WBB = wr.heap.size := ⟨_, rfl⟩
        have hlS : SB < wr.heap.size := (Array.getElem?_eq_some_iff.1 hI.out.s).1
        have I6 := I5.set (ds := #[.slice ag gs.length kg, .slice (some ⟨b, o, none⟩) fs.length kf, .string name, .int .i64 link, .slice ap params.length kp, .int .i64 res, .slice (some ⟨b4, o4, none⟩) blocks.length kb, .slice av ts.length cv, .int .i64 B]) 8 (.int .i64 B) rfl hne hle
        have x6 := setO (i := 8) (g' := SB) x5 (.int .i64 B) (by omega)
        obtain ⟨w6, hw6⟩ : ∃ w6, w6 = w5.setCell ⟨SB, 8, none⟩ (.int .i64 B) := ⟨_, rfl⟩
        rw [← hw6] at I6 x6
        replace hw5 := Kp.mk hw5
        replace hw6 := Kp.mk hw6
        replace I6 := Kp.mk I6
        rw [← hWBB] at x6
        replace x6 := Kp.mk x6
        replace i2 := Kp.mk i2
        clear I5 hI hd hb5 x5 hv
        go_upto_region 5 with fail
        rw [← hw5.out]
        go_upto_region 6 with fail
        rw [← hw6.out]
        rw [← hWBB]
        replace hWBB := Kp.mk hWBB
        have y0' : At w6 WBB 0 _ := cells_at x6.out rfl
        have s8 : At w6 SB 8 _ := cells_at I6.out.s rfl
        clear e8 f8
        by_cases h0 : (ys.length : Int) = 0
        · have hR : Kp (R = some ((4, (k : Int), (B : Int), (-1 : Int)) : FtD)) := ⟨hget.out (4, (k : Int), (B : Int), (-1 : Int)) (by unfold blF; rw [if_pos (by omega)])⟩
          have n0 : ((ys.length : Int) == 0) = true := by simp [h0]
          replace h0 := Kp.mk h0
          obtain ⟨hRw, hBl, hCl, hFz, z0, z1, z2, z3, y0, y1, y2, y3⟩ := four_of I6.out.r I6.out.b (Nat.le_succ _)
          have u0 := hFz 0
          have u1 := hFz 1
          have u2 := hFz 2
          have u3 := hFz 3
          have hS := Kp.mk (fun a b c d => belFour hBl hCl a b c d)
          obtain ⟨p0, p1, p2, p3⟩ := putFour hRw (Value.int .i64 4) (Value.int .i64 k) (Value.int .i64 B) (Value.int .i64 (-1))
          replace hRw := Kp.mk hRw
          clear hBl hCl hFz
          go_wp2_with fail
          refine bodyPost_ret (v := .agg #[Value.int .i64 4, Value.int .i64 k, Value.int .i64 B, Value.int .i64 (-1)]) ?_ rfl ⟨by rw [hR.out]; rfl, hS.out _ _ _ _⟩
          simp [results, Tryz.results35, go_sem, p0, p1, p2, p3]
        · have n0 := nb h0
          have hrf := Below.refl w6.heap.size w6
          go_wp2_with fail
          go_loopw [45] (fun r wr => ∃ i : Nat, i ≤ ys.length ∧ r = .int .i64 i ∧ Kp (∀ j, j < i → atF gs.length ts fs F B ys j = 0) ∧ Below w6.heap.size w6 wr) (fun r _ => ys.length - (intOf r).toNat)
          case atStart => exact ⟨0, Nat.zero_le _, rfl, ⟨fun j hj => absurd hj (by omega)⟩, hrf⟩
          case round =>
            clear hrf y0' s8
            obtain ⟨i, hi, rfl, hd, hBq⟩ := hrel
            have Iq := Kp.mk (I6.out.keep hBq)
            by_cases hlt2 : i < ys.length
            · have hlt2' : (i : Int) < (ys.length : Int) := by omega
              have xq := kept_at x6.out hBq
              have y0' : At wr WBB 0 _ := cells_at xq rfl
              have s0 : At wr SB 0 _ := cells_at Iq.out.s rfl
              have s1 : At wr SB 1 _ := cells_at Iq.out.s rfl
              have s2 : At wr SB 2 _ := cells_at Iq.out.s rfl
              have s3 : At wr SB 3 _ := cells_at Iq.out.s rfl
              have s4 : At wr SB 4 _ := cells_at Iq.out.s rfl
              have s5 : At wr SB 5 _ := cells_at Iq.out.s rfl
              have s6 : At wr SB 6 _ := cells_at Iq.out.s rfl
              have s7 : At wr SB 7 _ := cells_at Iq.out.s rfl
              have s8 : At wr SB 8 _ := cells_at Iq.out.s rfl
              have FIi := Kp.mk (FIB.out _ ai ki i Iq.out (BCi.out _ Iq.out.b) hlt2 hd.out)
              have HIT := Kp.mk (fun (q : ¬ atF gs.length ts fs F B ys i = 0) => hget.out _ (blF_hit (fn := k) hlt2 hd.out q))
              have hnx : Kp (atF gs.length ts fs F B ys i = 0 → ∀ j, j < i + 1 → atF gs.length ts fs F B ys j = 0) := ⟨fun q j hj => by
                by_cases e : j = i
                · rw [e]; exact q
                · exact hd.out j (by omega)⟩
              generalize atF gs.length ts fs F B ys i = AT at *
              clear hd xq
              by_cases hC : AT = 0
              · subst hC
                have hnx' := Kp.mk (hnx.out rfl)
                clear HIT hnx
                go_wp2_with fail
                refine FIi.out.mono ?_
                rintro e w7 ⟨rfl, hb7⟩
                go_wp2_with fail
                exact ⟨⟨i + 1, by omega, by go_num, hnx', bel_trans hBq hb7⟩, by simp [intOf]; omega⟩
              · have hR : Kp (R = some ((AT, (k : Int), (B : Int), (i : Int)) : FtD)) := ⟨HIT.out hC⟩
                have nC := nbT hC
                have mC := nb hC
                clear HIT hnx hC
                go_wp2_with fail
                refine FIi.out.mono ?_
                rintro e w7 ⟨rfl, hb7⟩
                have I7 := Kp.mk (Iq.out.keep hb7)
                clear s0 s1 s2 s3 s4 s5 s6 s7 s8 y0'
                have s8 : At w7 SB 8 _ := cells_at I7.out.s rfl
                obtain ⟨hRw, hBl, hCl, hFz, z0, z1, z2, z3, y0, y1, y2, y3⟩ := four_of I7.out.r I7.out.b (Nat.le_succ _)
                have u0 := hFz 0
                have u1 := hFz 1
                have u2 := hFz 2
                have u3 := hFz 3
                have hS := Kp.mk (fun a b c d => belFour hBl hCl a b c d)
                obtain ⟨p0, p1, p2, p3⟩ := putFour hRw (Value.int .i64 AT) (Value.int .i64 k) (Value.int .i64 B) (Value.int .i64 i)
                replace hRw := Kp.mk hRw
                clear hBl hCl hFz
                go_wp2_with fail
                refine bodyPost_ret (v := .agg #[Value.int .i64 AT, Value.int .i64 k, Value.int .i64 B, Value.int .i64 i]) ?_ rfl ⟨by rw [hR.out]; rfl, hS.out _ _ _ _⟩
                simp [results, Tryz.results35, go_sem, p0, p1, p2, p3]
            · have hlt2' : ¬ (i : Int) < (ys.length : Int) := by omega
              have hn0 := Kp.mk (hnone.out (blF_none (by omega) (fun j hj => hd.out j (by omega))))
              clear hd
              go_wp2_with fail
              exact ⟨⟨B + 1, B, by omega, by go_num, hn0, Iq⟩, by simp [intOf]; omega⟩
      · have hlt' : ¬ (B : Int) < (blocks.length : Int) := by omega
        have hR : Kp (R = none) := ⟨by rw [RB.out]; exact firstF_none (fun j hj => hd.out j (by omega))⟩
        clear hd
        obtain ⟨hRw, hBl, hCl, hFz, z0, z1, z2, z3, y0, y1, y2, y3⟩ := four_of hI.out.r hI.out.b (Nat.le_succ _)
        have u0 := hFz 0
        have u1 := hFz 1
        have u2 := hFz 2
        have u3 := hFz 3
        have hS := Kp.mk (fun a b c d => belFour hBl hCl a b c d)
        obtain ⟨p0, p1, p2, p3⟩ := putFour hRw (Value.int .i64 0) (Value.int .i64 0) (Value.int .i64 0) (Value.int .i64 0)
        replace hRw := Kp.mk hRw
        clear hBl hCl hFz
        go_wp2_with fail
        refine bodyPost_ret (v := .agg #[Value.int .i64 0, Value.int .i64 0, Value.int .i64 0, Value.int .i64 0]) ?_ rfl ⟨by rw [hR.out]; rfl, hS.out _ _ _ _⟩
        simp [results, Tryz.results35, go_sem, p0, p1, p2, p3]
  · go_simp
    obtain ⟨w1, hw1⟩ : ∃ w1, w1 = (W0.alloc (Go.Obj.cells #[.slice none 0 0, .slice none 0 0, .string ⟨#[]⟩, .int .i64 0, .slice none 0 0, .int .i64 0, .slice none 0 0, .slice none 0 0, .int .i64 0] 140)).drew := ⟨_, rfl⟩
    rw [← hw1]
    have z1 : w1.heap[W0.heap.size]? = some (Go.Obj.cells #[.slice none 0 0, .slice none 0 0, .string ⟨#[]⟩, .int .i64 0, .slice none 0 0, .int .i64 0, .slice none 0 0, .slice none 0 0, .int .i64 0] 140) := by rw [hw1]; exact new_at W0 _
    have hB1 : Below W0.heap.size W0 w1 := by rw [hw1]; exact (bel_alloc _ _).drew
    replace hw1 := Kp.mk hw1
    refine hK.out _ _ (SK.out _ hB1) (fun hHeld => ?_)
    clear hK K
    try simp only [Act.put, yA, yB, yC, yD, yE, yF]
    refine wpAnyH_ready (rs := [11]) (by kernel_rfl) (by simp) ?_
    refine AllReadyH.cons rfl (fun K hK => ?_) AllReadyH.nil
    go_simp
    refine (CV.out _ hB1).mono ?_
    rintro e w2 ⟨vt, rfl, hown, hb⟩
    have hB2 := bel_trans hB1 hb
    have hints := hown.ints hTL'.out
    obtain ⟨av, cv, rfl⟩ := hints.shape
    refine hK.out _ _ (SK.out _ hB2) (fun hHeld => ?_)
    clear hK K
    try simp only [Act.put, yA, yB, yC, yD, yE, yF]
    refine wpAnyH_take (i := 12) (v := .agg #[.slice ag gs.length kg, .slice (some ⟨b, o, none⟩) fs.length kf, .string name, .int .i64 link, .slice ap params.length kp, .int .i64 res, .slice ab blocks.length kb, .slice av ts.length cv, .int .i64 0]) rfl (by kernel_rfl) (by kernel_rfl) (by kernel_rfl) (fun _ _ _ h => h) (Or.inl ⟨by rfl, fun wq hSw => by (try dsimp only at hSw); go_simp⟩) hHeld ?_
    try simp only [Act.put, yA, yB, yC, yD, yE, yF]
    have z2 := kept_at z1 hb
    have hle0 : W0.heap.size ≤ W0.heap.size := Nat.le_refl _
    have hle : w.heap.size ≤ W0.heap.size := by have := hz0.out; omega
    have hne : w.heap.size + 1 ≠ W0.heap.size := by have := hz0.out; omega
    have hcv : ts.length ≤ cv := by
      obtain ⟨_, _, ⟨⟨_, _, e, l, _⟩, _⟩, _⟩ := hints.ex
      injection e with _ _ e3
      omega
    have I0 : BdI w (w.heap.size + 1) W0.heap.size #[.slice none 0 0, .slice none 0 0, .string ⟨#[]⟩, .int .i64 0, .slice none 0 0, .int .i64 0, .slice none 0 0, .slice none 0 0, .int .i64 0] av ts w2 := ⟨(IV0.out _ hB2).2, (IV0.out _ hB2).1, z2, by
      obtain ⟨bv, ov, ⟨⟨_, _, e, _, p⟩, _⟩, lb, c⟩ := hints.ex
      injection e with e1 _ _
      subst e1
      have l1 : W0.heap.size < w1.heap.size := (Array.getElem?_eq_some_iff.1 z1).1
      exact ⟨bv, ov, p, fun _ => by omega, c⟩⟩
    clear hown hints
    have e0 : At w2 W0.heap.size 0 _ := cells_at z2 rfl
    have e1 : At w2 W0.heap.size 1 _ := cells_at z2 rfl
    have e2 : At w2 W0.heap.size 2 _ := cells_at z2 rfl
    have e3 : At w2 W0.heap.size 3 _ := cells_at z2 rfl
    have e4 : At w2 W0.heap.size 4 _ := cells_at z2 rfl
    have e5 : At w2 W0.heap.size 5 _ := cells_at z2 rfl
    have e6 : At w2 W0.heap.size 6 _ := cells_at z2 rfl
    have e7 : At w2 W0.heap.size 7 _ := cells_at z2 rfl
    have e8 : At w2 W0.heap.size 8 _ := cells_at z2 rfl
    have fz := rw_cells z2
    have f0 := fz 0
    have f1 := fz 1
    have f2 := fz 2
    have f3 := fz 3
    have f4 := fz 4
    have f5 := fz 5
    have f6 := fz 6
    have f7 := fz 7
    have f8 := fz 8
    clear fz
    refine wpAnyH_ready (rs := [14]) (by kernel_rfl) (by simp) ?_
    refine AllReadyH.cons rfl (fun K hK => ?_) AllReadyH.nil
    go_simp
    refine hK.out _ _ (SK.out _ (belNine hB2 hle0 (.slice ag gs.length kg) (.slice (some ⟨b, o, none⟩) fs.length kf) (.string name) (.int .i64 link) (.slice ap params.length kp) (.int .i64 res) (.slice ab blocks.length kb) (.slice av ts.length cv) (.int .i64 0))) (fun hHeld => ?_)
    clear hK K
    try simp only [Act.put, yA, yB, yC, yD, yE, yF]
    refine wpAnyH_done (by kernel_rfl) ?_ _
    have I1 := (((((((((I0.set (ds := #[.slice ag gs.length kg, .slice none 0 0, .string ⟨#[]⟩, .int .i64 0, .slice none 0 0, .int .i64 0, .slice none 0 0, .slice none 0 0, .int .i64 0]) 0 (.slice ag gs.length kg) rfl hne hle).set (ds := #[.slice ag gs.length kg, .slice (some ⟨b, o, none⟩) fs.length kf, .string ⟨#[]⟩, .int .i64 0, .slice none 0 0, .int .i64 0, .slice none 0 0, .slice none 0 0, .int .i64 0]) 1 (.slice (some ⟨b, o, none⟩) fs.length kf) rfl hne hle).set (ds := #[.slice ag gs.length kg, .slice (some ⟨b, o, none⟩) fs.length kf, .string name, .int .i64 0, .slice none 0 0, .int .i64 0, .slice none 0 0, .slice none 0 0, .int .i64 0]) 2 (.string name) rfl hne hle).set (ds := #[.slice ag gs.length kg, .slice (some ⟨b, o, none⟩) fs.length kf, .string name, .int .i64 link, .slice none 0 0, .int .i64 0, .slice none 0 0, .slice none 0 0, .int .i64 0]) 3 (.int .i64 link) rfl hne hle).set (ds := #[.slice ag gs.length kg, .slice (some ⟨b, o, none⟩) fs.length kf, .string name, .int .i64 link, .slice ap params.length kp, .int .i64 0, .slice none 0 0, .slice none 0 0, .int .i64 0]) 4 (.slice ap params.length kp) rfl hne hle).set (ds := #[.slice ag gs.length kg, .slice (some ⟨b, o, none⟩) fs.length kf, .string name, .int .i64 link, .slice ap params.length kp, .int .i64 res, .slice none 0 0, .slice none 0 0, .int .i64 0]) 5 (.int .i64 res) rfl hne hle).set (ds := #[.slice ag gs.length kg, .slice (some ⟨b, o, none⟩) fs.length kf, .string name, .int .i64 link, .slice ap params.length kp, .int .i64 res, .slice ab blocks.length kb, .slice none 0 0, .int .i64 0]) 6 (.slice ab blocks.length kb) rfl hne hle).set (ds := #[.slice ag gs.length kg, .slice (some ⟨b, o, none⟩) fs.length kf, .string name, .int .i64 link, .slice ap params.length kp, .int .i64 res, .slice ab blocks.length kb, .slice av ts.length cv, .int .i64 0]) 7 (.slice av ts.length cv) rfl hne hle).set (ds := #[.slice ag gs.length kg, .slice (some ⟨b, o, none⟩) fs.length kf, .string name, .int .i64 link, .slice ap params.length kp, .int .i64 res, .slice ab blocks.length kb, .slice av ts.length cv, .int .i64 0]) 8 (.int .i64 0) rfl hne hle)
    clear e0 f0
    clear e1 f1
    clear e2 f2
    clear e3 f3
    clear e4 f4
    clear e5 f5
    clear e6 f6
    clear e7 f7
    clear e8 f8
    obtain ⟨w3, hw3⟩ : ∃ w3, w3 = (((((((((w2.setCell ⟨W0.heap.size, 0, none⟩ (.slice ag gs.length kg)).setCell ⟨W0.heap.size, 1, none⟩ (.slice (some ⟨b, o, none⟩) fs.length kf)).setCell ⟨W0.heap.size, 2, none⟩ (.string name)).setCell ⟨W0.heap.size, 3, none⟩ (.int .i64 link)).setCell ⟨W0.heap.size, 4, none⟩ (.slice ap params.length kp)).setCell ⟨W0.heap.size, 5, none⟩ (.int .i64 res)).setCell ⟨W0.heap.size, 6, none⟩ (.slice ab blocks.length kb)).setCell ⟨W0.heap.size, 7, none⟩ (.slice av ts.length cv)).setCell ⟨W0.heap.size, 8, none⟩ (.int .i64 0)) := ⟨_, rfl⟩
    rw [← hw3] at I1
    skip
    obtain ⟨SB, hSB⟩ : ∃ SB, SB = W0.heap.size := ⟨_, rfl⟩
    rw [← hSB] at I1 hle hne hw3 ⊢
    rw [← hw3]
    replace hw3 := Kp.mk hw3
    replace hSB := Kp.mk hSB
    clear I0 z2 z1 hB2 hB1 hb hle0 hHeld
    clear SK IV0 CV hb0
    have q6 : At w3 SB 6 _ := cells_at I1.s rfl
    have I1K := Kp.mk I1
    clear I1
    go_wp2_with fail
    go_loopw [27] (fun r wr => ∃ B bk : Nat, B ≤ blocks.length ∧ r = .int .i64 B ∧ Kp (∀ j, j < B → blF gs.length ts fs F k j (blocks.getD j []) = none) ∧ Kp (BdI w (w.heap.size + 1) SB #[.slice ag gs.length kg, .slice (some ⟨b, o, none⟩) fs.length kf, .string name, .int .i64 link, .slice ap params.length kp, .int .i64 res, .slice ab blocks.length kb, .slice av ts.length cv, .int .i64 bk] av ts wr)) (fun r _ => blocks.length - (intOf r).toNat)
    case atStart => exact ⟨0, 0, Nat.zero_le _, rfl, ⟨fun j hj => absurd hj (by omega)⟩, I1K⟩
    case round =>
      clear q6 I1K
      obtain ⟨B, bk, hBl, rfl, hd, hI⟩ := hrel
      by_cases hlt : B < blocks.length
      · obtain rfl := zab.out (by omega)
        have hlt' : (B : Int) < (blocks.length : Int) := by omega
        obtain ⟨vi, c0, hv⟩ := BC.out _ hI.out.b B hlt
        have FIB := Kp.mk (fun W ai ki i I hy hi hp => FI.out W av cv B (w.heap.size + 1) SB #[.slice ag gs.length kg, .slice (some ⟨b, o, none⟩) fs.length kf, .string name, .int .i64 link, .slice ap params.length kp, .int .i64 res, .slice (some ⟨b4, o4, none⟩) blocks.length kb, .slice av ts.length cv, .int .i64 B] hcv I hlt ai ki i hy hi hp)
        have hget := Kp.mk (fun (x : FtD) (hq : blF gs.length ts fs F k B (blocks.getD B []) = some x) => show R = some x by rw [RB.out]; exact firstF_hit hlt hd.out hq)
        have hnone := Kp.mk (fun (hq : blF gs.length ts fs F k B (blocks.getD B []) = none) => show ∀ j, j < B + 1 → blF gs.length ts fs F k j (blocks.getD j []) = none from fun j hj => by
          by_cases e : j = B
          · rw [e]; exact hq
          · exact hd.out j (by omega))
        have BCi0 : Kp (∀ W, Below w.heap.size w W → ∃ vi, At W b4 (o4 + B) vi ∧ Ins lo W vi (blocks.getD B [])) := ⟨fun W hW => BC.out W hW B hlt⟩
        have hBase := Kp.mk (BC0.out B hlt)
        generalize blocks.getD B [] = ys at *
        obtain ⟨vi0, c00, hv0⟩ := hBase.out
        obtain ⟨bi, oi, ⟨⟨ai, ki, rfl, i1, i2⟩, i3⟩, -, -⟩ := hv.ex
        have g5 : (ys.length : Int) ≤ 140737488355328 := by omega
        have hvi : vi0 = .slice ai ys.length ki := by
          have q := at_keep c00 hI.out.b
          exact Option.some.inj (q.symm.trans c0)
        rw [hvi] at hv0
        have BCi : Kp (∀ W, Below w.heap.size w W → Ins lo W (.slice ai ys.length ki) ys) := ⟨fun W hW => hv0.keep hW⟩
        clear hBase BCi0 hvi c00 hv0
        obtain ⟨w5, hw5⟩ : ∃ w5, w5 = wr.alloc (Go.Obj.cells #[.slice ai ys.length ki] 78) := ⟨_, rfl⟩
        have hb5 : Below wr.heap.size wr w5 := by rw [hw5]; exact bel_alloc _ _
        have x5 : w5.heap[wr.heap.size]? = some (Go.Obj.cells #[.slice ai ys.length ki] 78) := by rw [hw5]; exact new_at wr _
        have I5 := hI.out.keep hb5
        have e8 : At w5 SB 8 _ := cells_at I5.s rfl
        have f8 := rw_cells I5.s 8
        obtain ⟨WBB, hWBB⟩ : ∃ WBB, WBB = wr.heap.size := ⟨_, rfl⟩
        have hlS : SB < wr.heap.size := (Array.getElem?_eq_some_iff.1 hI.out.s).1
        have I6 := I5.set (ds := #[.slice ag gs.length kg, .slice (some ⟨b, o, none⟩) fs.length kf, .string name, .int .i64 link, .slice ap params.length kp, .int .i64 res, .slice (some ⟨b4, o4, none⟩) blocks.length kb, .slice av ts.length cv, .int .i64 B]) 8 (.int .i64 B) rfl hne hle
        have x6 := setO (i := 8) (g' := SB) x5 (.int .i64 B) (by omega)
        obtain ⟨w6, hw6⟩ : ∃ w6, w6 = w5.setCell ⟨SB, 8, none⟩ (.int .i64 B) := ⟨_, rfl⟩
        rw [← hw6] at I6 x6
        replace hw5 := Kp.mk hw5
        replace hw6 := Kp.mk hw6
        replace I6 := Kp.mk I6
        rw [← hWBB] at x6
        replace x6 := Kp.mk x6
        replace i2 := Kp.mk i2
        clear I5 hI hd hb5 x5 hv
        go_upto_region 5 with fail
        rw [← hw5.out]
        go_upto_region 6 with fail
        rw [← hw6.out]
        rw [← hWBB]
        replace hWBB := Kp.mk hWBB
        have y0' : At w6 WBB 0 _ := cells_at x6.out rfl
        have s8 : At w6 SB 8 _ := cells_at I6.out.s rfl
        clear e8 f8
        by_cases h0 : (ys.length : Int) = 0
        · have hR : Kp (R = some ((4, (k : Int), (B : Int), (-1 : Int)) : FtD)) := ⟨hget.out (4, (k : Int), (B : Int), (-1 : Int)) (by unfold blF; rw [if_pos (by omega)])⟩
          have n0 : ((ys.length : Int) == 0) = true := by simp [h0]
          replace h0 := Kp.mk h0
          obtain ⟨hRw, hBl, hCl, hFz, z0, z1, z2, z3, y0, y1, y2, y3⟩ := four_of I6.out.r I6.out.b (Nat.le_succ _)
          have u0 := hFz 0
          have u1 := hFz 1
          have u2 := hFz 2
          have u3 := hFz 3
          have hS := Kp.mk (fun a b c d => belFour hBl hCl a b c d)
          obtain ⟨p0, p1, p2, p3⟩ := putFour hRw (Value.int .i64 4) (Value.int .i64 k) (Value.int .i64 B) (Value.int .i64 (-1))
          replace hRw := Kp.mk hRw
          clear hBl hCl hFz
          go_wp2_with fail
          refine bodyPost_ret (v := .agg #[Value.int .i64 4, Value.int .i64 k, Value.int .i64 B, Value.int .i64 (-1)]) ?_ rfl ⟨by rw [hR.out]; rfl, hS.out _ _ _ _⟩
          simp [results, Tryz.results35, go_sem, p0, p1, p2, p3]
        · have n0 := nb h0
          have hrf := Below.refl w6.heap.size w6
          go_wp2_with fail
          go_loopw [45] (fun r wr => ∃ i : Nat, i ≤ ys.length ∧ r = .int .i64 i ∧ Kp (∀ j, j < i → atF gs.length ts fs F B ys j = 0) ∧ Below w6.heap.size w6 wr) (fun r _ => ys.length - (intOf r).toNat)
          case atStart => exact ⟨0, Nat.zero_le _, rfl, ⟨fun j hj => absurd hj (by omega)⟩, hrf⟩
          case round =>
            clear hrf y0' s8
            obtain ⟨i, hi, rfl, hd, hBq⟩ := hrel
            have Iq := Kp.mk (I6.out.keep hBq)
            by_cases hlt2 : i < ys.length
            · have hlt2' : (i : Int) < (ys.length : Int) := by omega
              have xq := kept_at x6.out hBq
              have y0' : At wr WBB 0 _ := cells_at xq rfl
              have s0 : At wr SB 0 _ := cells_at Iq.out.s rfl
              have s1 : At wr SB 1 _ := cells_at Iq.out.s rfl
              have s2 : At wr SB 2 _ := cells_at Iq.out.s rfl
              have s3 : At wr SB 3 _ := cells_at Iq.out.s rfl
              have s4 : At wr SB 4 _ := cells_at Iq.out.s rfl
              have s5 : At wr SB 5 _ := cells_at Iq.out.s rfl
              have s6 : At wr SB 6 _ := cells_at Iq.out.s rfl
              have s7 : At wr SB 7 _ := cells_at Iq.out.s rfl
              have s8 : At wr SB 8 _ := cells_at Iq.out.s rfl
              have FIi := Kp.mk (FIB.out _ ai ki i Iq.out (BCi.out _ Iq.out.b) hlt2 hd.out)
              have HIT := Kp.mk (fun (q : ¬ atF gs.length ts fs F B ys i = 0) => hget.out _ (blF_hit (fn := k) hlt2 hd.out q))
              have hnx : Kp (atF gs.length ts fs F B ys i = 0 → ∀ j, j < i + 1 → atF gs.length ts fs F B ys j = 0) := ⟨fun q j hj => by
                by_cases e : j = i
                · rw [e]; exact q
                · exact hd.out j (by omega)⟩
              generalize atF gs.length ts fs F B ys i = AT at *
              clear hd xq
              by_cases hC : AT = 0
              · subst hC
                have hnx' := Kp.mk (hnx.out rfl)
                clear HIT hnx
                go_wp2_with fail
                refine FIi.out.mono ?_
                rintro e w7 ⟨rfl, hb7⟩
                go_wp2_with fail
                exact ⟨⟨i + 1, by omega, by go_num, hnx', bel_trans hBq hb7⟩, by simp [intOf]; omega⟩
              · have hR : Kp (R = some ((AT, (k : Int), (B : Int), (i : Int)) : FtD)) := ⟨HIT.out hC⟩
                have nC := nbT hC
                have mC := nb hC
                clear HIT hnx hC
                go_wp2_with fail
                refine FIi.out.mono ?_
                rintro e w7 ⟨rfl, hb7⟩
                have I7 := Kp.mk (Iq.out.keep hb7)
                clear s0 s1 s2 s3 s4 s5 s6 s7 s8 y0'
                have s8 : At w7 SB 8 _ := cells_at I7.out.s rfl
                obtain ⟨hRw, hBl, hCl, hFz, z0, z1, z2, z3, y0, y1, y2, y3⟩ := four_of I7.out.r I7.out.b (Nat.le_succ _)
                have u0 := hFz 0
                have u1 := hFz 1
                have u2 := hFz 2
                have u3 := hFz 3
                have hS := Kp.mk (fun a b c d => belFour hBl hCl a b c d)
                obtain ⟨p0, p1, p2, p3⟩ := putFour hRw (Value.int .i64 AT) (Value.int .i64 k) (Value.int .i64 B) (Value.int .i64 i)
                replace hRw := Kp.mk hRw
                clear hBl hCl hFz
                go_wp2_with fail
                refine bodyPost_ret (v := .agg #[Value.int .i64 AT, Value.int .i64 k, Value.int .i64 B, Value.int .i64 i]) ?_ rfl ⟨by rw [hR.out]; rfl, hS.out _ _ _ _⟩
                simp [results, Tryz.results35, go_sem, p0, p1, p2, p3]
            · have hlt2' : ¬ (i : Int) < (ys.length : Int) := by omega
              have hn0 := Kp.mk (hnone.out (blF_none (by omega) (fun j hj => hd.out j (by omega))))
              clear hd
              go_wp2_with fail
              exact ⟨⟨B + 1, B, by omega, by go_num, hn0, Iq⟩, by simp [intOf]; omega⟩
      · have hlt' : ¬ (B : Int) < (blocks.length : Int) := by omega
        have hR : Kp (R = none) := ⟨by rw [RB.out]; exact firstF_none (fun j hj => hd.out j (by omega))⟩
        clear hd
        obtain ⟨hRw, hBl, hCl, hFz, z0, z1, z2, z3, y0, y1, y2, y3⟩ := four_of hI.out.r hI.out.b (Nat.le_succ _)
        have u0 := hFz 0
        have u1 := hFz 1
        have u2 := hFz 2
        have u3 := hFz 3
        have hS := Kp.mk (fun a b c d => belFour hBl hCl a b c d)
        obtain ⟨p0, p1, p2, p3⟩ := putFour hRw (Value.int .i64 0) (Value.int .i64 0) (Value.int .i64 0) (Value.int .i64 0)
        replace hRw := Kp.mk hRw
        clear hBl hCl hFz
        go_wp2_with fail
        refine bodyPost_ret (v := .agg #[Value.int .i64 0, Value.int .i64 0, Value.int .i64 0, Value.int .i64 0]) ?_ rfl ⟨by rw [hR.out]; rfl, hS.out _ _ _ _⟩
        simp [results, Tryz.results35, go_sem, p0, p1, p2, p3]
end
end Go.Proofs.YtbnkbbcncloedaaGreatDoor
