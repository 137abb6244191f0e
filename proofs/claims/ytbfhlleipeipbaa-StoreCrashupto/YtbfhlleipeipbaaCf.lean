/-
  What is proved: the contract of slices.CompactFunc at store.Change: of neighbours that are alike the first is kept. Conditions: those in each statement.
-/
import Derived.Test.YtbfhlleipeipbaaBs
import Derived.Lib.SliceRun
namespace Go.Proofs.Ytbfhlleipeipbaa
open Go.Shelf Go.RowKit Go.Lib Go.Sort
variable {P : Program} {k : Nat}

/-- Whether the element i differs from the one ahead of it. -/
def keepAt (eqb : Cg → Cg → Bool) (d : Array Cg) (i : Nat) : Bool := i == 0 || !eqb d[i]! d[i - 1]!
/-- Those among the first m that are kept. -/
def kept (eqb : Cg → Cg → Bool) (d : Array Cg) (m : Nat) : List Cg := ((List.range m).filter (keepAt eqb d)).map fun i => d[i]!
theorem kept_yes {eqb : Cg → Cg → Bool} {d : Array Cg} {m : Nat} (h : keepAt eqb d m = true) : kept eqb d (m + 1) = kept eqb d m ++ [d[m]!] := by
  unfold kept; rw [List.range_succ, List.filter_append, List.map_append]; simp [h]
theorem kept_no {eqb : Cg → Cg → Bool} {d : Array Cg} {m : Nat} (h : keepAt eqb d m = false) : kept eqb d (m + 1) = kept eqb d m := by
  unfold kept; rw [List.range_succ, List.filter_append, List.map_append]; simp [h]
theorem kept_all {eqb : Cg → Cg → Bool} {d : Array Cg} : ∀ m : Nat, (∀ j, j < m → keepAt eqb d j = true) → kept eqb d m = seg d 0 m
  | 0, _ => rfl
  | m + 1, h => by
    rw [kept_yes (h m (Nat.lt_succ_self _)), kept_all m (fun j hj => h j (by omega)), seg_add, Nat.zero_add]
    rfl

/-- Where the second loop stands: m are looked at, the kept ones stand ahead. -/
structure CpInv (eqb : Cg → Cg → Bool) (d : Array Cg) (m kk : Nat) (dk : Array Cg) : Prop where
  size : dk.size = d.size
  len : (kept eqb d m).length = kk
  lt : kk < m
  ahead : seg dk 0 kk = kept eqb d m
  high : ∀ t, m ≤ t + 1 → dk[t]! = d[t]!
theorem CpInv.start {eqb : Cg → Cg → Bool} {d : Array Cg} {m : Nat} (h : ∀ j, j < m → keepAt eqb d j = true) (h0 : keepAt eqb d m = false) : CpInv eqb d (m + 1) m d :=
  ⟨rfl, by rw [kept_no h0, kept_all m h, seg_length], Nat.lt_succ_self _, by rw [kept_no h0, kept_all m h], fun _ _ => rfl⟩
theorem CpInv.skip {eqb : Cg → Cg → Bool} {d dk : Array Cg} {m kk : Nat} (h : CpInv eqb d m kk dk) (h0 : keepAt eqb d m = false) : CpInv eqb d (m + 1) kk dk :=
  ⟨h.size, by rw [kept_no h0]; exact h.len, Nat.lt_succ_of_lt h.lt, by rw [kept_no h0]; exact h.ahead, fun t ht => h.high t (by omega)⟩
theorem set_at (d : Array Cg) (i t : Nat) (x : Cg) (hi : i < d.size) : (d.setIfInBounds i x)[t]! = if t = i then x else d[t]! := by
  by_cases h : t = i
  · subst h; simp [hi]
  · by_cases ht : t < d.size
    · simp [h, Ne.symm h, ht, getElem!_pos]
    · simp [h, ht, getElem!_neg]
theorem CpInv.keep {eqb : Cg → Cg → Bool} {d dk : Array Cg} {m kk : Nat} (h : CpInv eqb d m kk dk) (hm : m < d.size) (h0 : keepAt eqb d m = true) : CpInv eqb d (m + 1) (kk + 1) (dk.setIfInBounds kk d[m]!) := by
  have hs := h.size
  have hl := h.lt
  refine ⟨by simpa using hs, by rw [kept_yes h0, List.length_append, h.len]; rfl, by omega, ?_, fun t ht => ?_⟩
  · rw [kept_yes h0, seg_add, ← h.ahead]
    congr 1
    · exact seg_congr fun t ht => by rw [set_at _ _ _ _ (by omega), if_neg (by omega)]
    · show [(dk.setIfInBounds kk d[m]!)[0 + kk + 0]!] = _
      rw [set_at _ _ _ _ (by omega), if_pos (by omega)]
  · rw [set_at _ _ _ _ (by omega), if_neg (by omega)]; exact h.high t (by omega)

/-! ### stores of a row's cells -/
theorem SWK.cells {w0 W : World} {blk off s : Nat} {dk dk' : Array Cg} {vs : List Value} (h : SWK encC k w0 blk off dk W) (hblk : blk < w0.heap.size) (hs : s + vs.length ≤ dk.size * k) (he : setMany (flatK encC k dk) s vs = flatK encC k dk') :
    SWK encC k w0 blk off dk' (W.setCells blk (off + s) vs) := by
  obtain ⟨n, os, rfl⟩ := h
  refine ⟨n, os, ?_⟩
  unfold sortWorldK
  rw [setCells_grow os blk _ _ _ (by rw [size_putRowK]; exact hblk)]
  unfold putRowK
  rw [setCells_putRow _ _ _ _ _ _ (by rw [size_flatK]; exact hs), he]
theorem flat_set3 (dk : Array Cg) (i : Nat) (x : Cg) (hi : i < dk.size) : setMany (flatK encC 3 dk) (i * 3) (encC x) = flatK encC 3 (dk.setIfInBounds i x) := by
  refine ext_get! (by simp) fun t ht => ?_
  have ht' : t < dk.size * 3 := by simpa using ht
  rw [get_setMany _ _ _ t (by simpa using ht'), get_flatK _ _ _ t ht', get_flatK _ _ _ t (by simpa using ht'), encC_len, set_at _ _ _ _ hi]
  by_cases h : t / 3 = i
  · rw [if_pos (by omega), if_pos h, show t - i * 3 = t % 3 by omega]
  · rw [if_neg (by omega), if_neg h]
/-- The elements from kk on are nothing. -/
def zeroed (dk : Array Cg) (kk : Nat) : Array Cg := (Array.range dk.size).map fun t => if t < kk then dk[t]! else default
theorem zeroed_at (dk : Array Cg) (kk t : Nat) (h : t < dk.size) : (zeroed dk kk)[t]! = if t < kk then dk[t]! else default := by
  simp [zeroed, h, getElem!_pos]
theorem zeroed_size (dk : Array Cg) (kk : Nat) : (zeroed dk kk).size = dk.size := by simp [zeroed]
def zeroCs (n : Nat) : List Value := (Builtin.zeroCells #[.string ⟨#[]⟩, .string ⟨#[]⟩, .bool false] n).toList
theorem zeroCs_len (n : Nat) : (zeroCs n).length = n * 3 := by simp [zeroCs, Builtin.zeroCells]
theorem zeroCs_get (n j : Nat) (h : j < n * 3) : (zeroCs n)[j]! = (encC default)[j % 3]! := by
  have h3 : j % 3 < 3 := Nat.mod_lt _ (by decide)
  have : (zeroCs n)[j]'(by rw [zeroCs_len]; exact h) = (encC default)[j % 3]! := by
    simp [zeroCs, Builtin.zeroCells]
    have : j % 3 = 0 ∨ j % 3 = 1 ∨ j % 3 = 2 := by omega
    rcases this with e | e | e <;> simp [e, encC, default]
  rw [getElem!_pos _ _ (by rw [zeroCs_len]; exact h)]; exact this
theorem zeroCs_one (n : Nat) : ∀ v ∈ zeroCs n, v.oneCell' = true := fun v hv => by
  obtain ⟨j, hj, rfl⟩ := List.getElem_of_mem hv
  have hj' : j < n * 3 := by rwa [zeroCs_len] at hj
  have e := zeroCs_get n j hj'
  rw [getElem!_pos (zeroCs n) j hj] at e
  rw [e]
  exact encC_one default _ (by
    have h3 : j % 3 < (encC default).length := by rw [encC_len]; exact Nat.mod_lt _ (by decide)
    rw [getElem!_pos (encC default) (j % 3) h3]; exact List.getElem_mem h3)
theorem flat_zero3 (dk : Array Cg) (kk : Nat) (hk : kk ≤ dk.size) : setMany (flatK encC 3 dk) (kk * 3) (zeroCs (dk.size - kk)) = flatK encC 3 (zeroed dk kk) := by
  refine ext_get! (by simp [zeroed_size]) fun t ht => ?_
  have ht' : t < dk.size * 3 := by simpa using ht
  rw [get_setMany _ _ _ t (by simpa using ht'), get_flatK _ _ _ t ht', get_flatK _ _ _ t (by rw [zeroed_size]; exact ht'), zeroCs_len, zeroed_at _ _ _ (by omega)]
  by_cases h : t / 3 < kk
  · rw [if_neg (by omega), if_pos h]
  · rw [if_pos (by omega), if_neg h, zeroCs_get _ _ (by omega), show (t - kk * 3) % 3 = t % 3 by omega]
/-- clear of a row of changes. -/
theorem run_clear3 (w : World) (ty : TypeId) (ht : P.underlying 36 = some (.slice 52)) (hv : ∀ w, (zeroValue 52).run P w = .ok (.agg #[.string ⟨#[]⟩, .string ⟨#[]⟩, .bool false]) w) (b o n c : Nat) (hn : 0 < n)
    (hc : ∀ j, j < n * 3 → (w.cell? ⟨b, o + j, none⟩).isSome = true) (hf : ∀ j, j < n * 3 → w.frozen? ⟨b, o + j, none⟩ = false) :
    (Builtin.clear_ #[36] ty #[.slice (some ⟨b, o, none⟩) n c]).run P w = .ok (.tuple #[]) (w.setCells b o (zeroCs n)) := by
  have hst := run_storeCells_cells (P := P) b o (zeroCs n) 0 w (by rw [zeroCs_len]; simpa using hc) (by rw [zeroCs_len]; simpa using hf) (zeroCs_one n)
  simp only [Nat.add_zero] at hst
  unfold zeroCs at hst ⊢
  obtain ⟨m, rfl⟩ : ∃ m, n = m + 1 := ⟨n - 1, by omega⟩
  simp [Builtin.clear_, run_underlying ht, hv, Value.cells, hst]

set_option maxHeartbeats 16000000 in
set_option maxRecDepth 1000000 in
theorem compact_any (M : SM P k) (vE : ∀ w, (zeroValue 52).run P w = .ok (.agg #[.string ⟨#[]⟩, .string ⟨#[]⟩, .bool false]) w) (g : Nat) (eqb : Cg → Cg → Bool) (blk off cap : Nat) (d : Array Cg) (w0 : World) (eg : ∀ args w, (callFunc g args).run P w = .ok (.enter g args) w)
    (hcmp : ∀ (x y : Cg) (W : World), Calls P g #[.agg (encC x).toArray, .agg (encC y).toArray] W fun e w' => e = .returned (.bool (eqb x y)) ∧ ∃ q os', w' = grow (W.drewN q) os')
    (R : RowK encC k w0 blk off d) (hsz : d.size < 4611686018427387904) (hcap : d.size ≤ cap) :
    Calls P 96 #[.slice (some ⟨blk, off, none⟩) d.size cap, .func (.func g) #[] #[]] w0 fun e w' =>
      ∃ d', d'.size = d.size ∧ (kept eqb d d.size).length ≤ d.size ∧ seg d' 0 (kept eqb d d.size).length = kept eqb d d.size ∧ e = .returned (.slice (some ⟨blk, off, none⟩) (kept eqb d d.size).length cap) ∧ SWK encC k w0 blk off d' w' := by
  have L := M.sl
  have mixed := L.mixed; have t3 := L.t3; have a3 := L.a3; have z3 := L.z3; have v3 := L.v3; have t4 := L.t4; have a4 := L.a4; have z4 := L.z4; have v4 := L.v4; have t36 := L.t36; have a36 := L.a36; have z36 := L.z36; have v36 := L.v36; have aE := L.aE; have zE := L.zE
  have t152 := M.t152; have a152 := M.a152; have z152 := M.z152; have v152 := M.v152
  have HC : Aside (∀ (x y : Cg) (W : World), Calls P g #[.agg (encC x).toArray, .agg (encC y).toArray] W fun e w' => e = .returned (.bool (eqb x y)) ∧ ∃ q os', w' = grow (W.drewN q) os') := hcmp
  have VE : Aside (∀ w, (zeroValue 52).run P w = .ok (.agg #[.string ⟨#[]⟩, .string ⟨#[]⟩, .bool false]) w) := vE
  have S0 : Aside (SWK encC k w0 blk off d w0) := SWK.start R.hH
  have K3 : Aside (k = 3) := (R.hk default).symm
  clear hcmp vE
  by_cases h2 : d.size < 2
  · have h2z : (d.size : Int) < 2 := by omega
    have ek : kept eqb d d.size = seg d 0 d.size := kept_all _ fun j hj => by
      obtain rfl : j = 0 := by omega
      rfl
    have EK : Aside (kept eqb d d.size = seg d 0 d.size) := ek
    clear ek
    go_enter M.f96, Try.ntmps96
    go_wp2
    go_ret
    rw [EK.out, seg_length]
    exact ⟨d, rfl, Nat.le_refl _, rfl, rfl, S0.out⟩
  · have h2z : ¬ (d.size : Int) < 2 := by omega
    go_enter M.f96, Try.ntmps96
    go_wp2
    go_loopg [5] d.size (fun kx v5 wr => ∃ x : Nat, v5 = .int .i64 (x : Int) ∧ 1 ≤ x ∧ x ≤ d.size ∧ d.size - x ≤ kx ∧ Aside (SWK encC k w0 blk off d wr) ∧ Aside (∀ j, j < x → keepAt eqb d j = true))
    case atStart => exact ⟨1, rfl, Nat.le_refl _, by omega, by omega, S0, (show Aside (∀ j, j < 1 → keepAt eqb d j = true) from fun j hj => (by rw [show j = 0 by omega]; rfl))⟩
    case round =>
      clear S0
      obtain ⟨x, rfl, hx1, hxn, hkx, S1, A1⟩ := hrel
      by_cases hlt : x < d.size
      · have hltz : (x : Int) < (d.size : Int) := by omega
        obtain ⟨y, hy⟩ : ∃ y, y + 1 = x := ⟨x - 1, by omega⟩
        have ey : (x : Int) - 1 = (y : Int) := by omega
        have hyn : y < d.size := by omega
        have HY : Aside _ := hy
        clear hy
        have px : (0 : Int) ≤ (x : Int) := by omega
        have py : (0 : Int) ≤ (y : Int) := by omega
        have by' : (y : Int) < (d.size : Int) := by omega
        have ry : IntKind.i64.wrap (y : Int) = (y : Int) := by rw [IntKind.wrap_i64]; omega
        obtain ⟨u, hu⟩ : ∃ u, u = d[x]! := ⟨_, rfl⟩
        obtain ⟨v, hv⟩ : ∃ v, v = d[y]! := ⟨_, rfl⟩
        have la := S1.out.ld R rfl P x hlt
        have lb := S1.out.ld R rfl P y hyn
        rw [← hu] at la
        rw [← hv] at lb
        have hc := fun n os => HC.out u v (grow (wr.drewN n) os)
        have KA : Aside (keepAt eqb d x = !eqb u v) := by
          show keepAt eqb d x = _
          unfold keepAt
          rw [hu, hv, ← HY.out]
          simp
        clear hu hv
        cases hlv : eqb u v with
        | false =>
          rw [hlv] at hc
          have KA2 : Aside (keepAt eqb d x = true) := by show _ = _; rw [KA.out, hlv]; rfl
          clear hlv KA
          go_wp2_with fail
          go_quiet_grown (first | (go_at_fn g; refine Calls.grown_of (hc _ _)))
          have S2 : Aside (SWK encC k w0 blk off d (grow (wr.drewN nq) osq)) := S1.out.grown nq osq
          clear la lb hc S1
          generalize grow (wr.drewN nq) osq = w2 at S2 ⊢
          clear nq osq
          go_wp2
          go_roundg (d.size - (x + 1))
          case measure => omega
          case rel => exact ⟨x + 1, by first | rfl | go_num | (congr 1; omega), by omega, by omega, Nat.le_refl _, S2, (fun j hj => by
            by_cases e : j = x
            · rw [e]; exact KA2.out
            · exact A1.out j (by omega) : Aside _)⟩
        | true =>
          rw [hlv] at hc
          have KA2 : Aside (keepAt eqb d x = false) := by show _ = _; rw [KA.out, hlv]; rfl
          clear hlv KA
          go_wp2_with fail
          go_quiet_grown (first | (go_at_fn g; refine Calls.grown_of (hc _ _)))
          have S2 : Aside (SWK encC k w0 blk off d (grow (wr.drewN nq) osq)) := S1.out.grown nq osq
          clear la lb hc S1
          generalize grow (wr.drewN nq) osq = w2 at S2 ⊢
          clear nq osq
          have hxc : (x : Int) ≤ (cap : Int) := by omega
          go_wp2
          go_loopg [5, 7] d.size (fun kx v5 v7 wr => ∃ (kk z : Nat) (dk : Array Cg), v5 = .int .i64 (kk : Int) ∧ v7 = .int .i64 (z : Int) ∧ 1 ≤ z ∧ x + z ≤ d.size ∧ d.size - (x + z) ≤ kx ∧ kk < x + z ∧ Aside (SWK encC k w0 blk off dk wr) ∧ Aside (CpInv eqb d (x + z) kk dk))
          case atStart => exact ⟨x, 1, d, rfl, rfl, Nat.le_refl _, by omega, by omega, by omega, S2, (CpInv.start A1.out KA2.out : Aside _)⟩
          case round =>
            clear S2
            obtain ⟨kk, z, dk, rfl, rfl, hz1, hzn, hkx2, hkk, S2, I2⟩ := hrel
            by_cases hl2 : x + z < d.size
            · have hl2z : (z : Int) < (d.size : Int) - (x : Int) := by omega
              have hl2n : z < d.size - x := by omega
              have hl2n' : (z : Int) < ((d.size - x : Nat) : Int) := by omega
              obtain ⟨y2, hy2⟩ : ∃ y, y + 1 = z := ⟨z - 1, by omega⟩
              have ey2 : (z : Int) - 1 = (y2 : Int) := by omega
              have hy2n : y2 < d.size - x := by omega
              have hy2n' : (y2 : Int) < ((d.size - x : Nat) : Int) := by omega
              have HY2 : Aside _ := hy2
              clear hy2
              have pz : (0 : Int) ≤ (z : Int) := by omega
              have py2 : (0 : Int) ≤ (y2 : Int) := by omega
              have pkk : (0 : Int) ≤ (kk : Int) := by omega
              have bkk : (kk : Int) < (d.size : Int) := by omega
              have ry2 : IntKind.i64.wrap (y2 : Int) = (y2 : Int) := by rw [IntKind.wrap_i64]; omega
              obtain ⟨u2, hu2⟩ : ∃ u, u = d[x + z]! := ⟨_, rfl⟩
              obtain ⟨v2, hv2⟩ : ∃ v, v = d[x + y2]! := ⟨_, rfl⟩
              have la : ∀ n os, Sem.run P (loadCellsFrom ⟨blk, off + x * k + z * k, none⟩ 0 k #[]) (grow (wr.drewN n) os) = .ok (encC u2).toArray (grow (wr.drewN n) os) := fun n os => by
                have h := S2.out.ld R I2.out.size P (x + z) (by rw [I2.out.size]; omega) n os
                rw [I2.out.high (x + z) (by omega), ← hu2, Nat.add_mul, ← Nat.add_assoc] at h
                exact h
              have lb : ∀ n os, Sem.run P (loadCellsFrom ⟨blk, off + x * k + y2 * k, none⟩ 0 k #[]) (grow (wr.drewN n) os) = .ok (encC v2).toArray (grow (wr.drewN n) os) := fun n os => by
                have hh := HY2.out
                have h := S2.out.ld R I2.out.size P (x + y2) (by rw [I2.out.size]; omega) n os
                rw [I2.out.high (x + y2) (by omega), ← hv2, Nat.add_mul, ← Nat.add_assoc] at h
                exact h
              have hc := fun n os => HC.out u2 v2 (grow (wr.drewN n) os)
              have KA : Aside (keepAt eqb d (x + z) = !eqb u2 v2) := by
                show keepAt eqb d (x + z) = _
                unfold keepAt
                have hh := HY2.out
                rw [hu2, hv2, show x + z - 1 = x + y2 by omega]
                have : (x + z == 0) = false := by simp; omega
                rw [this]; rfl
              have HU : Aside (u2 = d[x + z]!) := hu2
              clear hu2 hv2
              cases hlv : eqb u2 v2 with
              | true =>
                rw [hlv] at hc
                have KB : Aside (keepAt eqb d (x + z) = false) := by show _ = _; rw [KA.out, hlv]; rfl
                clear hlv KA
                go_wp2_with fail
                go_quiet_grown (first | (go_at_fn g; refine Calls.grown_of (hc _ _)))
                have S3 : Aside (SWK encC k w0 blk off dk (grow (wr.drewN nq) osq)) := S2.out.grown nq osq
                clear la lb hc S2
                generalize grow (wr.drewN nq) osq = w3 at S3 ⊢
                clear nq osq
                go_wp2
                go_roundg (d.size - (x + (z + 1)))
                case measure => omega
                case rel => exact ⟨kk, z + 1, dk, rfl, by first | rfl | go_num | (congr 1; omega), by omega, by omega, Nat.le_refl _, by omega, S3, (I2.out.skip KB.out : Aside _)⟩
              | false =>
                rw [hlv] at hc
                have KB : Aside (keepAt eqb d (x + z) = true) := by show _ = _; rw [KA.out, hlv]; rfl
                clear hlv KA
                go_wp2_with fail
                go_quiet_grown (first | (go_at_fn g; refine Calls.grown_of (hc _ _)))
                have S3 : Aside (SWK encC k w0 blk off dk (grow (wr.drewN nq) osq)) := S2.out.grown nq osq
                have lc := la nq osq
                clear la lb hc S2
                generalize grow (wr.drewN nq) osq = w3 at S3 lc ⊢
                clear nq osq
                have sc : Sem.run P (storeCells ⟨blk, off + kk * k, none⟩ (encC u2) 0) w3 = .ok () (w3.setCells blk (off + kk * k) (encC u2)) :=
                  stores_of_holds P (S3.out.holds R.hblk R.hH I2.out.size) (kk * k) _ (by rw [R.hk, size_flatK]; exact rowK_bnd dk k kk (by rw [I2.out.size]; omega)) (R.h1 _)
                have S4 : Aside (SWK encC k w0 blk off (dk.setIfInBounds kk u2) (w3.setCells blk (off + kk * k) (encC u2))) := by
                  have h3 := K3.out
                  subst h3
                  have hkd : kk < dk.size := by rw [I2.out.size]; omega
                  exact SWK.cells S3.out R.hblk (by rw [encC_len]; omega) (flat_set3 dk kk u2 hkd)
                have nu : (encC u2).length = k := R.hk _
                clear S3
                generalize w3.setCells blk (off + kk * k) (encC u2) = w4 at S4 sc
                generalize encC u2 = cu at *
                go_wp2
                go_roundg (d.size - (x + (z + 1)))
                case measure => omega
                case rel => exact ⟨kk + 1, z + 1, dk.setIfInBounds kk u2, by first | rfl | go_num | (congr 1; omega), by first | rfl | go_num | (congr 1; omega), by omega, by omega, Nat.le_refl _, by omega, S4, (by rw [HU.out]; exact I2.out.keep hl2 KB.out : Aside _)⟩
            · have hl2z : ¬ (z : Int) < (d.size : Int) - (x : Int) := by omega
              have hl2n' : ¬ (z : Int) < ((d.size - x : Nat) : Int) := by omega
              have hend : Aside (x + z = d.size) := by show _ = _; omega
              have hkd : kk < d.size := by omega
              have hkdz : (kk : Int) ≤ (d.size : Int) := by omega
              have hkcz : (kk : Int) ≤ (cap : Int) := by omega
              have pkk : (0 : Int) ≤ (kk : Int) := by omega
              have HH := S2.out.holds R.hblk R.hH I2.out.size
              have hcl : ∀ ty, (Builtin.clear_ #[36] ty #[.slice (some ⟨blk, off + kk * k, none⟩) (d.size - kk) (cap - kk)]).run P wr = .ok (.tuple #[]) (wr.setCells blk (off + kk * k) (zeroCs (d.size - kk))) := fun ty => by
                have h3 := K3.out
                subst h3
                have hz := I2.out.size
                exact run_clear3 wr ty t36 VE.out blk (off + kk * 3) (d.size - kk) (cap - kk) (by omega)
                  (fun j hj => by rw [Nat.add_assoc, (HH (kk * 3 + j) (by rw [size_flatK]; omega)).1]; rfl) (fun j hj => by rw [Nat.add_assoc]; exact (HH (kk * 3 + j) (by rw [size_flatK]; omega)).2)
              have S4 : Aside (SWK encC k w0 blk off (zeroed dk kk) (wr.setCells blk (off + kk * k) (zeroCs (d.size - kk)))) := by
                have h3 := K3.out
                subst h3
                have hz := I2.out.size
                rw [← hz]
                exact SWK.cells S2.out R.hblk (by rw [zeroCs_len]; omega) (flat_zero3 dk kk (by omega))
              clear HH S2
              generalize wr.setCells blk (off + kk * k) (zeroCs (d.size - kk)) = w4 at S4 hcl
              go_wp2
              go_ret
              have i2 := I2.out
              rw [hend.out] at i2
              refine ⟨zeroed dk kk, (zeroed_size _ _).trans i2.size, by rw [i2.len]; omega, ?_, by rw [i2.len]; rfl, S4.out⟩
              rw [i2.len, ← i2.ahead]
              refine seg_congr fun t ht => ?_
              rw [zeroed_at _ _ _ (by rw [i2.size]; omega), if_pos (by omega)]
      · have hltz : ¬ (x : Int) < (d.size : Int) := by omega
        have ek : kept eqb d d.size = seg d 0 d.size := kept_all _ fun j hj => A1.out j (by omega)
        have EK : Aside (kept eqb d d.size = seg d 0 d.size) := ek
        clear ek
        go_wp2
        go_ret
        rw [EK.out, seg_length]
        exact ⟨d, rfl, Nat.le_refl _, rfl, rfl, S1.out⟩
end Go.Proofs.Ytbfhlleipeipbaa
