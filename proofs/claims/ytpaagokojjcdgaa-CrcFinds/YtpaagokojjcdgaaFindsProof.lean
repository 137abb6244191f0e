/-
  What is proved: CrcFinds answers true, and each argument reads behind the call as before it, for every input (the first form of the statement). No condition.
-/
import Derived.Test.YtpaagokojjcdgaaFinds
import Derived.Test.YtpaagokojjcdgaaOpen
import Derived.Laws.IdiomArrays
namespace Go.Proofs.Ytpaagokojjcdgaa
open Go.ChangeShapes Go.WideShapes Go.ChangeAt Go.RowKit
open Go.ChangeMaps (open_string shut_string)

theorem Try.oneByte : Try.prog.bytesOf 5 = 1 := by kernel_rfl

/-- four bytes by value that come in -/
theorem open_four {H : Type} {enc : TypeId × Value → H} {W : World} {base : Nat} {v : Value} {d : DataW H} {p : List MemPlace} (hv : Value.okWide Try.prog W .any base 33 v) (h : DataW.Trod enc Try.prog W 0 (fun _ => true) true 33 v d p) :
    ∃ y0 y1 y2 y3 : UInt8, v = .agg #[.int .u8 (y0.toNat : Int), .int .u8 (y1.toNat : Int), .int .u8 (y2.toNat : Int), .int .u8 (y3.toNat : Int)] := by
  simp only [Value.okWide, Try.underlying33] at hv
  obtain ⟨cs, rfl, h2, _⟩ := hv
  have hc : Try.prog.cellsOf 33 = 4 := by kernel_rfl
  have hc5 : Try.prog.cellsOf 5 = 1 := by kernel_rfl
  rw [hc] at h2
  obtain ⟨ls⟩ := cs
  match ls, h2 with
  | [c0, c1, c2, c3], _ =>
    obtain ⟨fuel, hf⟩ := h
    obtain ⟨x0, x1, x2, x3, n, _, g0, g1, g2, g3⟩ := trod_array4 Try.underlying33 hc5 (c0 := c0) (c1 := c1) (c2 := c2) (c3 := c3) hf
    have one : ∀ {c : Value} {y : DataW H × List MemPlace}, DataW.trod enc Try.prog W 0 (fun _ => true) true n 5 [c] = some y → ∃ b : UInt8, c = .int .u8 (b.toNat : Int) := by
      intro c y hy
      obtain ⟨a, ea, _, wa⟩ := DataW.trod_int Try.underlying5 hy
      have hb := bounds_u8 wa
      simp at ea
      refine ⟨UInt8.ofNat a.toNat, ?_⟩
      rw [ea]
      congr 1
      simp only [UInt8.toNat_ofNat']
      omega
    obtain ⟨b0, rfl⟩ := one g0
    obtain ⟨b1, rfl⟩ := one g1
    obtain ⟨b2, rfl⟩ := one g2
    obtain ⟨b3, rfl⟩ := one g3
    exact ⟨b0, b1, b2, b3, rfl⟩

set_option maxRecDepth 100000 in
theorem crcFinds_lifted (os : Os) (started : os.Started) (H : Type) (enc : TypeId × Value → H) :
    ReturnsInHanded {} Try.checked os 6 .any (Rows.crcFindsSpec.pre6 enc Try.prog Try.f6 Rows.crcFindsRow.domain false) (Rows.crcFindsSpec.post enc Try.prog Try.f6 false true false false) := by
  refine returnsInHanded_of_change_sized (C := Try.checked) own started (by kernel_rfl) Try.func6
    (ChangeSpec.witness6 (enc := enc) (C := Try.checked) false ⟨#[], #[.slice none 0 0, .int .i64 0, .agg #[.int .u8 0, .int .u8 0, .int .u8 0, .int .u8 0]], []⟩ 8 (by kernel_rfl) (by kernel_rfl) (by kernel_rfl) (by kernel_rfl)) ?_
  intro W base args ds gs before hval0 hW hcnd hsz0 _
  have hval : ∀ (j : Nat) t v, Try.f6.params[j]? = some t → args[j]? = some v → Value.okWide Try.prog W .any base t v := hval0
  have hsz : (DataW.weightsEach Try.prog (Try.f6.params.toList ++ Rows.crcFindsSpec.plain.varTypes Try.prog) (ds ++ gs)).all (· ≤ reachBytes) = true := hsz0
  have hW' := hW
  obtain ⟨p, q, hA0, hV, rfl, hfz, hnd⟩ := hW
  have hA : DataW.TrodAll enc Try.prog W 0 (fun _ => true) true Try.f6.params.toList args.toList ds p := hA0
  rw [Try.params6] at hA hval hsz
  obtain ⟨v0, vs0, d0, ds0, p0, q0, hargs, rfl, rfl, h0, r0⟩ := trodAll_cons hA
  obtain ⟨v1, vs1, d1, ds1, p1, q1, rfl, rfl, rfl, h1, r1⟩ := trodAll_cons r0
  obtain ⟨v2, vs2, d2, ds2, p2, q2, rfl, rfl, rfl, h2, r2⟩ := trodAll_cons r1
  obtain ⟨rfl, rfl, rfl⟩ := trodAll_nil r2
  obtain rfl : args = #[v0, v1, v2] := by cases args; simp_all
  obtain ⟨rfl, rfl⟩ := trodVars_none hV
  obtain ⟨a0, n0, c0, rfl⟩ := okWide_slice Try.underlying27 (hval 0 27 v0 rfl rfl)
  have lt0 : ∀ x ∈ p0, x.block < W.heap.size := by obtain ⟨m, hm⟩ := h0; exact DataW.trod_lt m _ _ _ hm
  obtain ⟨l0, hold0, hlen0⟩ := open_hold h0
  have hn0 : n0 ≤ 140737488351232 := by
    rcases hlen0 with ⟨_, h, _⟩ | ⟨e, s, rfl, rfl, _⟩
    · omega
    · have := sized_slice hsz (j := 0) (t := 27) (e := 5) rfl rfl Try.underlying27
      rw [Try.oneByte] at this
      simp only [reachBytes] at this
      omega
  obtain ⟨a1, rfl, rfl, rfl, w1⟩ := open_int Try.underlying3 (hval 1 3 v1 rfl rfl) h1
  have b1 := bounds_i64 w1
  obtain ⟨y0, y1, y2, y3, rfl⟩ := open_four (hval 2 33 v2 rfl rfl) h2
  have lt2 : ∀ x ∈ p2, x.block < W.heap.size := by obtain ⟨m, hm⟩ := h2; exact DataW.trod_lt m _ _ _ hm
  clear hA0 hval0
  refine (crcFinds_walk a0 n0 c0 l0 a1 y0 y1 y2 y3 W hold0 (by omega) b1.1 b1.2).mono fun e W' ⟨he, bel⟩ => ?_
  subst he
  exact ⟨_, rfl, _, _, _, [], _, [], hW', trodAll_mk1 (shut_bool Try.underlying4 _), (trodAll_cons_mk (Below.trod laidOut (by kernel_rfl) (of_decide_eq_true (by kernel_rfl)) h0 bel lt0) (trodAll_cons_mk (shut_int Try.underlying3 w1) (trodAll_cons_mk (Below.trod laidOut (by kernel_rfl) (of_decide_eq_true (by kernel_rfl)) h2 bel lt2) trodAll_mk0))), rfl, bel.frame _, fun h => by cases h⟩

theorem CrcFinds_holds : Rows.CrcFindsSaid :=
  OpenClaim.holds_of_wide 6 Try.f6 rfl rfl rfl rfl rfl rfl rfl ⟨rfl, rfl, rfl, rfl, rfl⟩ rfl rfl rfl rfl rfl (by kernel_rfl) Try.func6 (by kernel_rfl)
    (of_decide_eq_true (by kernel_rfl)) (by unfold Func.isWrapper; first | (rw [if_pos (by decide +kernel)]; kernel_rfl) | (rw [if_neg (by decide +kernel)]; exact ⟨rfl, rfl⟩))
    (fun os started H enc _ => crcFinds_lifted os started H enc)
#print axioms CrcFinds_holds
end Go.Proofs.Ytpaagokojjcdgaa
