/-
  What is proved: what a row's list of package-level variables, and the world's shape, say of the variables that markup reads. Conditions: those in each statement.
-/
import Derived.Test.YtbokcihlbpeagaaGreatDoorRe
import Derived.Test.YtbokcihlbpeagaaGreatDoorSl
import Derived.Test.YtbokcihlbpeagaaGreatDoorRows
import Derived.Stop.LaidErr
import Derived.MakeChecks
import Derived.OpenShut
import Derived.LaidLaws
namespace Go.Proofs.YtbokcihlbpeagaaGreatDoor
open Go.RowKit Go.ChangeShapes

theorem one_cell {cs : List Value} {v : Value} (hl : cs.length = 1) (h : cs.take 1 = [v]) : cs = [v] := by
  rw [← h, List.take_of_length_le (by omega)]
set_option maxRecDepth 100000 in
theorem entity_of_trod {w : World} {sp : Nat → Bool} {held : Bool} {fuel : Nat} {cs : List Value} {a b : List UInt8} {p : List MemPlace}
    (h : DataW.trod (fun _ => ()) Tryz.prog w 0 sp held fuel 97 cs = some ((.agg [.lit (.string a), .lit (.string b)] : DataW Unit), p)) : cs = [.string ⟨a.toArray⟩, .string ⟨b.toArray⟩] := by
  obtain ⟨xs, m, rfl, hx, hlen, hn, hel⟩ := DataW.trod_struct Tryz.underlying97 h
  have c2 : Tryz.prog.cellsOf 97 = 2 := by kernel_rfl
  have c1 : Tryz.prog.cellsOf 9 = 1 := by kernel_rfl
  rw [c2] at hlen
  have e0 := hel 0 _ rfl
  have e1 := hel 1 _ rfl
  simp only [Prod.mk.injEq, DataW.agg.injEq] at hx
  match xs, hn, hx, e0, e1 with
  | [x0, x1], _, hx, e0, e1 =>
    match cs, hlen, e0, e1 with
    | [v0, v1], _, e0, e1 =>
      obtain ⟨s0, h1, h2, _⟩ := DataW.trod_string Tryz.underlying9 (show DataW.trod _ Tryz.prog w 0 _ held m 9 _ = some x0 from e0)
      obtain ⟨s1, h3, h4, _⟩ := DataW.trod_string Tryz.underlying9 (show DataW.trod _ Tryz.prog w 0 _ held m 9 _ = some x1 from e1)
      subst h2 h4
      simp only [List.map_cons, List.map_nil, List.cons.injEq, DataW.lit.injEq, Lit.string.injEq, and_true] at hx
      obtain ⟨⟨rfl, rfl⟩, _⟩ := hx
      simp [c1] at h1 h3
      rw [h1, h3]
set_option maxRecDepth 100000 in
theorem entities_of_trod {w : World} {sp : Nat → Bool} {held : Bool} {fuel : Nat} {cs : List Value} {p : List MemPlace}
    (h : DataW.trod (fun _ => ()) Tryz.prog w 0 sp held fuel 98 cs = some (Rows.laid_pavane_markup_entities, p)) : cs = entCells.toList := by
  obtain ⟨xs, m, rfl, hx, hlen, hn, hel⟩ := DataW.trod_array Tryz.underlying98 h
  have c10 : Tryz.prog.cellsOf 98 = 10 := by kernel_rfl
  have c2 : Tryz.prog.cellsOf 97 = 2 := by kernel_rfl
  rw [c10] at hlen
  have e0 := hel 0 (by decide)
  have e1 := hel 1 (by decide)
  have e2 := hel 2 (by decide)
  have e3 := hel 3 (by decide)
  have e4 := hel 4 (by decide)
  unfold Rows.laid_pavane_markup_entities at hx
  simp only [Prod.mk.injEq, DataW.agg.injEq] at hx
  match xs, hn, hx, e0, e1, e2, e3, e4 with
  | [x0, x1, x2, x3, x4], _, hx, e0, e1, e2, e3, e4 =>
    match cs, hlen, e0, e1, e2, e3, e4 with
    | [v0, v1, v2, v3, v4, v5, v6, v7, v8, v9], _, e0, e1, e2, e3, e4 =>
      simp only [c2] at e0 e1 e2 e3 e4
      obtain ⟨d0, p0⟩ := x0
      obtain ⟨d1, p1⟩ := x1
      obtain ⟨d2, p2⟩ := x2
      obtain ⟨d3, p3⟩ := x3
      obtain ⟨d4, p4⟩ := x4
      simp only [List.map_cons, List.map_nil, List.cons.injEq, and_true] at hx
      obtain ⟨⟨rfl, rfl, rfl, rfl, rfl⟩, _⟩ := hx
      have f0 : [v0, v1] = _ := entity_of_trod (show DataW.trod _ Tryz.prog w 0 sp held m 97 [v0, v1] = _ from e0)
      have f1 : [v2, v3] = _ := entity_of_trod (show DataW.trod _ Tryz.prog w 0 sp held m 97 [v2, v3] = _ from e1)
      have f2 : [v4, v5] = _ := entity_of_trod (show DataW.trod _ Tryz.prog w 0 sp held m 97 [v4, v5] = _ from e2)
      have f3 : [v6, v7] = _ := entity_of_trod (show DataW.trod _ Tryz.prog w 0 sp held m 97 [v6, v7] = _ from e3)
      have f4 : [v8, v9] = _ := entity_of_trod (show DataW.trod _ Tryz.prog w 0 sp held m 97 [v8, v9] = _ from e4)
      simp only [List.cons.injEq, and_true] at f0 f1 f2 f3 f4
      rw [f0.1, f0.2, f1.1, f1.2, f2.1, f2.2, f3.1, f3.2, f4.1, f4.2]
      rfl
theorem var_lt {P : Program} {W : World} {n : String} {g : Nat} {cs : Array Value} (hg : P.globalNamed n = some g) (h : W.var? P n = some cs) : g < W.heap.size := by
  unfold World.var? at h
  rw [hg] at h
  simp only [Option.bind_some] at h
  rcases Nat.lt_or_ge g W.heap.size with h' | h'
  · exact h'
  · simp [Array.getElem?_eq_none h'] at h
theorem ent_head {r : List (String × DataW Unit)} {W : World} (h : laidMet Tryz.prog (("pavane/markup.entities", Rows.laid_pavane_markup_entities) :: r) W) :
    ∀ j v, entCells[j]? = some v → W.cell? ⟨0, j, none⟩ = some v := by
  obtain ⟨ps, ⟨g0, t0, cs0, f0, p0, q0, hg0, ht0, hv0, hd0, _, _⟩, _, _⟩ := h
  obtain rfl := Option.some.inj ((show Tryz.prog.globalNamed "pavane/markup.entities" = some 0 by kernel_rfl).symm.trans hg0)
  obtain rfl := Option.some.inj ((show (Tryz.prog.globals[0]?).map (·.type) = some 98 by kernel_rfl).symm.trans ht0)
  have e := entities_of_trod hd0
  intro j v hv
  have := World.var?_cell hg0 hv0 j
  rw [this, show cs0 = entCells from Array.toList_inj.1 e]
  exact hv
theorem star_err : "*" ++ "errors.errorString" = "*errors.errorString" := by decide
theorem row_err (u : TypeId) (h : Tryz.prog.typeName? 3 u = some "*errors.errorString") : u = 152 :=
  typeName_ptr_named (nm := "errors.errorString") (by rw [star_err]; kernel_rfl) (by kernel_rfl) (by decide) u (by rw [star_err]; exact h)
theorem glob_of {W : World} (h : laidMet Tryz.prog [("math/bits.deBruijn32tab", Rows.laid_math_bits_deBruijn32tab), ("math/bits.deBruijn64tab", Rows.laid_math_bits_deBruijn64tab), ("internal/strconv.uint64pow10", Rows.laid_internal_strconv_uint64pow10), ("unicode/utf8.acceptRanges", Rows.laid_unicode_utf8_acceptRanges), ("strconv.ErrRange", Rows.laid_strconv_ErrRange), ("strconv.ErrSyntax", Rows.laid_strconv_ErrSyntax), ("pavane/markup.entities", Rows.laid_pavane_markup_entities), ("unicode/utf8.first", Rows.laid_unicode_utf8_first)] W)
    (hS : W.ShapedOpen Tryz.prog) : Glob W := by
  have hz : 9 ≤ W.heap.size := by
    obtain ⟨ps, ⟨g0, t0, cs0, f0, p0, q0, hg0, ht0, hv0, _, _, _⟩, _, _⟩ := h.tail
    obtain rfl := Option.some.inj ((show Tryz.prog.globalNamed "math/bits.deBruijn64tab" = some 6 by kernel_rfl).symm.trans hg0)
    have h1 := var_lt hg0 hv0
    obtain ⟨ps, ⟨g0, t0, cs0, f0, p0, q0, hg0, ht0, hv0, _, _, _⟩, _, _⟩ := h.tail.tail.tail.tail
    obtain rfl := Option.some.inj ((show Tryz.prog.globalNamed "strconv.ErrRange" = some 8 by kernel_rfl).symm.trans hg0)
    have h2 := var_lt hg0 hv0
    omega
  have hE := ent_head h.tail.tail.tail.tail.tail.tail
  obtain ⟨a, s, hv, _⟩ := laid_sentinel (g := 7) (ti := 82) (tp := 152) (te := 154) (ts := 9) h.tail.tail.tail.tail.tail
    (by kernel_rfl) (by kernel_rfl) Tryz.underlying82 row_err Tryz.underlying152 Tryz.underlying154 rfl rfl Tryz.underlying9 (by kernel_rfl) (by kernel_rfl)
  refine ⟨hE, Go.Proofs.cell_of_shapedOpen_int (zero := #[.int .i64 0]) (t := 3) hS (of_decide_eq_true (by kernel_rfl)) (by kernel_rfl) rfl (by kernel_rfl) (by kernel_rfl) Tryz.underlying3, ?_, hz⟩
  refine ⟨.iface 152 (.pointer (some a)), ?_, .inr ⟨_, _, rfl⟩⟩
  have := World.var?_cell (show Tryz.prog.globalNamed "strconv.ErrSyntax" = some 7 by kernel_rfl) hv 0
  simpa using this
end Go.Proofs.YtbokcihlbpeagaaGreatDoor
