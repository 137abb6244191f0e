/-
  What is proved: what Clone answers, told by the disk as lists.
-/
import Derived.Test.YtmajmohnnfjiaaaNew
namespace Go.Proofs.Ytmajmohnnfjiaaa
open Go.RowKit

theorem own_base {w : World} {base e z n : Nat} {v : Value} {xs : List Value} (h : w.ownsRow base e z v n xs) : w.ownsRow 0 e z v n xs := by
  refine ⟨h.1, ?_⟩
  rcases h.2 with h0 | ⟨g, cap, cur, hv, _, r⟩
  · exact .inl h0
  · exact .inr ⟨g, cap, cur, hv, Nat.zero_le _, r⟩
/-- a row's copy in new memory -/
def RowPost (w : World) (e z n : Nat) (xs : List Value) (en : Ending) (w' : World) : Prop := ∃ A c, en = .returned (.slice A n c) ∧ w'.ownsRow w.heap.size e z (.slice A n c) n xs ∧ Below w.heap.size w w'
theorem row_news {w : World} {e z n c g : Nat} {xs : List Value} (h : w.ownsRow 0 e z (.slice (some ⟨g, 0, none⟩) n c) n xs) (ob : Obj) : ∀ j u, xs[j]? = some u → (w.alloc ob).cell? ((⟨g, 0, none⟩ : Addr).add j) = some u := by
  intro j u hu
  have := own_range (h.alloc ob) 0 xs (fun j v hv => by rw [Nat.zero_add]; exact hv) j u hu
  rw [Addr.add_lit]
  exact this
theorem secV_one (ls : List (List UInt8)) : ∀ u ∈ secV ls, u.oneCell' = true := by
  intro u hu
  obtain ⟨x, hx, hux⟩ := List.mem_flatten.1 hu
  obtain ⟨l, _, rfl⟩ := List.mem_map.1 hx
  exact bv_one l u hux
theorem bufV_one (ls : List (Nat × List UInt8)) : ∀ u ∈ bufV ls, u.oneCell' = true := by
  intro u hu
  obtain ⟨x, hx, hux⟩ := List.mem_flatten.1 hu
  obtain ⟨l, _, rfl⟩ := List.mem_map.1 hx
  exact wV_one l u hux

theorem nil_eq (t e L n c : Nat) (h : Try.prog.underlying t = some (.slice e)) : ∀ w, (binOp .eql t (.slice (some ⟨L, 0, none⟩) n c) (.slice none 0 0)).run Try.prog w = .ok (.bool false) w := fun w => Lib.run_eql_slice_nil w t e (some ⟨L, 0, none⟩) n c 0 0 h
theorem row_fin {w w2 : World} {e z n : Nat} {xs : List Value} {v : Value} {ob : Obj} (hown : w2.ownsRow w.heap.size e z v (0 + n) ([] ++ xs)) (hg : (w.alloc ob).grownBy w2 (some w.heap.size)) : RowPost w e z n xs (.returned v) w2 := by
  rw [Nat.zero_add, List.nil_append] at hown
  have hb : Below w.heap.size w w2 := ((Below.refl _ _).alloc (Nat.le_refl _) ob).grown hg (by simp) (fun k hk => by injection hk with hk; omega)
  have hf : ∃ A c, v = .slice A n c := by
    rcases hown.2 with ⟨rfl, rfl⟩ | ⟨g, cap, cur, rfl, _⟩
    · exact ⟨_, _, rfl⟩
    · exact ⟨_, _, rfl⟩
  obtain ⟨A, c, rfl⟩ := hf
  exact ⟨A, c, rfl, hown, hb⟩

set_option maxRecDepth 100000 in
set_option maxHeartbeats 1000000 in
theorem clone_secs (w : World) (L n c : Nat) (xs : List Value) (h : w.ownsRow 0 64 64 (.slice (some ⟨L, 0, none⟩) n c) n xs) (h1 : ∀ u ∈ xs, u.oneCell' = true) (hn : n * 64 ≤ 140737488355328) :
    Calls Try.prog 32 #[.slice (some ⟨L, 0, none⟩) n c] w (RowPost w 64 64 n xs) := by
  obtain ⟨i0, hi0, hz0, hz1, hz2⟩ := info_parts Try.info64
  have heq := nil_eq 55 64 L n c Try.underlying55
  have HX := Lib.hid (row_news h (.cells #[] 64))
  have hxl := Lib.hid h.1
  have H1 := Lib.hid h1
  have HO := Lib.hid (World.ownsRow_made (base := w.heap.size) (e := 64) (size := 64) w #[] 0 (Nat.le_refl _) (by unfold maxLen; omega) rfl)
  clear h h1
  go_enter Try.func32, Try.ntmps32
  go_wp2_with (at_builtin; refine wpList_append_own _ rfl (.tmp 5) (.tmp 6) 55 rfl w.heap.size 64 i0 _ 64 64 Try.underlying55 hi0 hz0 hz1 hz2 rfl (by omega) (.slice (some ⟨w.heap.size, 0, none⟩) 0 0) 0 [] rfl HO.out ⟨L, 0, none⟩ n c xs rfl hxl.out HX.out H1.out (by unfold maxLen; omega) (by omega) (by simp) ?_; intro v w2 hown hgrow _; have HO2 := Lib.hid hown; have HG2 := Lib.hid hgrow; clear hown hgrow)
  go_ret
  exact row_fin HO2.out HG2.out

set_option maxRecDepth 100000 in
set_option maxHeartbeats 1000000 in
theorem clone_buf (w : World) (L n c : Nat) (xs : List Value) (h : w.ownsRow 0 66 65 (.slice (some ⟨L, 0, none⟩) n c) n xs) (h1 : ∀ u ∈ xs, u.oneCell' = true) (hn : n * 72 ≤ 140737488355328) :
    Calls Try.prog 33 #[.slice (some ⟨L, 0, none⟩) n c] w (RowPost w 66 65 n xs) := by
  obtain ⟨i0, hi0, hz0, hz1, hz2⟩ := info_parts Try.info66
  have heq := nil_eq 56 66 L n c Try.underlying56
  have HX := Lib.hid (row_news h (.cells #[] 66))
  have hxl := Lib.hid h.1
  have H1 := Lib.hid h1
  have HO := Lib.hid (World.ownsRow_made (base := w.heap.size) (e := 66) (size := 65) w #[] 0 (Nat.le_refl _) (by unfold maxLen; omega) rfl)
  clear h h1
  go_enter Try.func33, Try.ntmps33
  go_wp2_with (at_builtin; refine wpList_append_own _ rfl (.tmp 5) (.tmp 6) 56 rfl w.heap.size 66 i0 _ 65 72 Try.underlying56 hi0 hz0 hz1 hz2 rfl (by omega) (.slice (some ⟨w.heap.size, 0, none⟩) 0 0) 0 [] rfl HO.out ⟨L, 0, none⟩ n c xs rfl hxl.out HX.out H1.out (by unfold maxLen; omega) (by omega) (by simp) ?_; intro v w2 hown hgrow _; have HO2 := Lib.hid hown; have HG2 := Lib.hid hgrow; clear hown hgrow)
  go_ret
  exact row_fin HO2.out HG2.out

theorem clone_nil (w : World) : Calls Try.prog 33 #[.slice none 0 0] w fun e w' => e = .returned (.slice none 0 0) ∧ w' = w := by
  have heq : ∀ w, (binOp .eql 56 (.slice none 0 0) (.slice none 0 0)).run Try.prog w = .ok (.bool true) w := fun w => Lib.run_eql_slice_nil w 56 66 none 0 0 0 0 Try.underlying56
  go_enter Try.func33, Try.ntmps33
  go_wp2_with fail
  go_ret
  exact ⟨rfl, rfl⟩
theorem clone_writes (w : World) (A : Option Addr) (n c : Nat) (xs : List Value) (h : w.ownsRow 0 66 65 (.slice A n c) n xs) (h1 : ∀ u ∈ xs, u.oneCell' = true) (hn : n * 72 ≤ 140737488355328) :
    Calls Try.prog 33 #[.slice A n c] w (RowPost w 66 65 n xs) := by
  rcases h.2 with ⟨hv, h0⟩ | ⟨g, cap, cur, hv, _⟩
  · injection hv with e1 e2 e3
    subst e1 e2 e3
    refine (clone_nil w).mono ?_
    rintro e w' ⟨rfl, rfl⟩
    have hx : xs = [] := List.eq_nil_of_length_eq_zero (by have := h.1; omega)
    subst hx
    exact ⟨none, 0, rfl, World.ownsRow_nil _ _ _ _, Below.refl _ _⟩
  · injection hv with e1 e2 e3
    subst e1 e3
    exact clone_buf w g n _ xs h h1 hn

theorem own_up {w : World} {base base' e z n : Nat} {v : Value} {xs : List Value} (h : w.ownsRow base' e z v n xs) (hb : base ≤ base') : w.ownsRow base e z v n xs := by
  refine ⟨h.1, ?_⟩
  rcases h.2 with h0 | ⟨g, cap, cur, hv, hg, r⟩
  · exact .inl h0
  · exact .inr ⟨g, cap, cur, hv, by omega, r⟩
/-- a disk of its own -/
def OwnDk (base : Nat) (w : World) (s : D) (v : Value) : Prop := ∃ g L q, v = .pointer (some ⟨g, 0, none⟩) ∧ Dk w g L q s ∧ ∀ b, Foot g L q b → base ≤ b
theorem OwnDk.below {base : Nat} {w w' : World} {s : D} {v : Value} (h : OwnDk base w s v) (hb : Below w.heap.size w w') : OwnDk base w' s v := by
  obtain ⟨g, L, q, e, hd, hf⟩ := h
  exact ⟨g, L, q, e, hd.below hb, hf⟩
def ClonePost (w : World) (s : D) (e : Ending) (w' : World) : Prop := ∃ v, e = .returned v ∧ OwnDk w.heap.size w' s v ∧ Below w.heap.size w w'
theorem own_later {w w' : World} {base e z n : Nat} {v : Value} {xs : List Value} (h : w.ownsRow base e z v n xs) (hb : Below w.heap.size w w') : w'.ownsRow base e z v n xs := by
  refine ⟨h.1, ?_⟩
  rcases h.2 with hn | ⟨g, cap, cur, rfl, hg, hh, r⟩
  · exact .inl hn
  · exact .inr ⟨g, cap, cur, rfl, hg, by rw [hb.block g (Array.getElem?_eq_some_iff.1 hh).1]; exact hh, r⟩

/-- what the operations of Clone's statement yield -/
def clF (base g L N cap : Nat) (A : Option Addr) (n c : Nat) (s : D) : Nat → Value → World → Prop
  | 0, v, _ | 1, v, _ | 5, v, _ | 6, v, _ | 10, v, _ | 11, v, _ | 2, v, _ => v = .pointer (some ⟨g, 0, none⟩)
  | 7, v, _ => v = .pointer (some ⟨g, 1, none⟩)
  | 12, v, _ => v = .pointer (some ⟨g, 2, none⟩)
  | 3, v, _ => v = .slice (some ⟨L, 0, none⟩) N cap
  | 8, v, _ => v = .slice A n c
  | 13, v, _ => v = .int .i64 s.left
  | 4, v, w => ∃ B k, v = .slice B N k ∧ w.ownsRow base 64 64 (.slice B N k) N (secV s.last)
  | 9, v, w => ∃ B k, v = .slice B n k ∧ w.ownsRow base 66 65 (.slice B n k) n (bufV s.buf)
  | 14, v, w => ∃ B k B' k', v = .agg #[.slice B N k, .slice B' n k', .int .i64 s.left] ∧ w.ownsRow base 64 64 (.slice B N k) N (secV s.last) ∧ w.ownsRow base 66 65 (.slice B' n k') n (bufV s.buf)
  | _, v, w => OwnDk base w s v
theorem clF_mono {base g L N cap : Nat} {A : Option Addr} {n c : Nat} {s : D} : ∀ i v w w', clF base g L N cap A n c s i v w → Below w.heap.size w w' → clF base g L N cap A n c s i v w' := by
  intro i v w w' h hR
  unfold clF at *
  split at h
  all_goals first
    | exact h
    | (obtain ⟨B, k, e, h1⟩ := h; exact ⟨B, k, e, own_later h1 hR⟩)
    | (obtain ⟨B, k, B', k', e, h1, h2⟩ := h; exact ⟨B, k, B', k', e, own_later h1 hR, own_later h2 hR⟩)
    | exact OwnDk.below h hR
theorem clone_fin {w : World} {base k k' : Nat} {B B' : Option Addr} {s : D} (hok : s.Ok) (hb : base ≤ w.heap.size) (h1 : w.ownsRow base 64 64 (.slice B s.last.length k) s.last.length (secV s.last)) (h2 : w.ownsRow base 66 65 (.slice B' s.buf.length k') s.buf.length (bufV s.buf)) :
    OwnDk base (w.alloc (.cells #[.slice B s.last.length k, .slice B' s.buf.length k', .int .i64 s.left] 58)) s (.pointer (some ⟨w.heap.size, 0, none⟩)) := by
  have hpos := hok.pos
  obtain ⟨L, e⟩ := own_some (own_base h1) (by omega)
  subst e
  refine ⟨w.heap.size, L, (Value.slice B' s.buf.length k').ownBlock, rfl, ⟨hok, k, _, heap_alloc_new w _, own_base (h1.alloc _), own_base (h2.alloc _), rfl⟩, ?_⟩
  rintro b (rfl | rfl | hq)
  · exact hb
  · exact (h1.lt b rfl).1
  · exact (h2.lt b hq).1

set_option maxRecDepth 100000 in
set_option maxHeartbeats 1000000 in
theorem clone_any (w : World) (g L : Nat) (q : Option Nat) (s : D) (h : Dk w g L q s) (hn : s.buf.length * 72 ≤ 140737488355328) : Calls Try.prog 19 #[.pointer (some ⟨g, 0, none⟩)] w (ClonePost w s) := by
  have hok := Lib.hid h.ok
  have hmost := h.ok.most
  obtain ⟨cap, A, c, hg, hL, hB, hq⟩ := h.form
  have HG := Lib.hid (fun W (hb : Below w.drew.heap.size w.drew W) => by
    have hgW := (hb.block g (h.lt g foot_g)).trans hg
    exact box_cells hgW)
  have HL := Lib.hid (fun W (hb : Below w.drew.heap.size w.drew W) => own_later (w := w.drew) hL hb)
  have HB := Lib.hid (fun W (hb : Below w.drew.heap.size w.drew W) => own_later (w := w.drew) hB hb)
  clear h hg hL hB hq
  go_enter Try.func19, Try.ntmps19
  go_wp2_with fail
  refine wp_region_steps (clF w.drew.heap.size g L s.last.length cap A s.buf.length c s) (fun w w' => Below w.heap.size w w') (by kernel_rfl) (by kernel_rfl) (fun w => Below.refl _ _) (fun _ _ _ h k => Below.trans h (Below.mono k (Below.size h))) clF_mono ?_ ?_
  · refine ⟨?_, ?_, ?_, ?_, ?_, ?_, ?_, ?_, ?_, ?_, ?_, ?_, ?_, ?_, ?_, ?_, ?_, trivial⟩
    · intro a W hR hoff hd
      left
      refine ⟨rfl, ?_⟩
      have e0 : a.tmps.getD 0 undef = .pointer (some ⟨g, 0, none⟩) := hoff.slot 0 (no_dst (by kernel_rfl))
      go_simp
      exact ⟨_, rfl, rfl, Below.refl _ _⟩
    · intro a W hR hoff hd
      left
      refine ⟨rfl, ?_⟩
      have e0 : a.tmps.getD 3 undef = .pointer (some ⟨g, 0, none⟩) := hd 0 _ rfl rfl
      go_simp
      exact ⟨_, rfl, rfl, Below.refl _ _⟩
    · intro a W hR hoff hd
      left
      refine ⟨rfl, ?_⟩
      have e0 : a.tmps.getD 4 undef = .pointer (some ⟨g, 0, none⟩) := hd 1 _ rfl rfl
      go_simp
      exact ⟨_, rfl, rfl, Below.refl _ _⟩
    · intro a W hR hoff hd
      left
      refine ⟨rfl, ?_⟩
      have e0 : a.tmps.getD 5 undef = .pointer (some ⟨g, 0, none⟩) := hd 2 _ rfl rfl
      obtain ⟨c0, _, _, _⟩ := HG.out W hR
      go_simp
      exact ⟨_, rfl, rfl, Below.refl _ _⟩
    · intro a W hR hoff hd
      left
      refine ⟨rfl, ?_⟩
      have e0 : a.tmps.getD 6 undef = .slice (some ⟨L, 0, none⟩) s.last.length cap := hd 3 _ rfl rfl
      have hl := Lib.hid (HL.out W hR)
      go_simp
      refine (clone_secs W L s.last.length cap (secV s.last) hl.out (secV_one _) (by omega)).mono ?_
      rintro e W2 ⟨B, k, rfl, h1, h2⟩
      exact ⟨_, rfl, ⟨B, k, rfl, own_up h1 hR.size⟩, h2⟩
    · intro a W hR hoff hd
      left
      refine ⟨rfl, ?_⟩
      have e0 : a.tmps.getD 0 undef = .pointer (some ⟨g, 0, none⟩) := hoff.slot 0 (no_dst (by kernel_rfl))
      go_simp
      exact ⟨_, rfl, rfl, Below.refl _ _⟩
    · intro a W hR hoff hd
      left
      refine ⟨rfl, ?_⟩
      have e0 : a.tmps.getD 8 undef = .pointer (some ⟨g, 0, none⟩) := hd 5 _ rfl rfl
      go_simp
      exact ⟨_, rfl, rfl, Below.refl _ _⟩
    · intro a W hR hoff hd
      left
      refine ⟨rfl, ?_⟩
      have e0 : a.tmps.getD 9 undef = .pointer (some ⟨g, 0, none⟩) := hd 6 _ rfl rfl
      go_simp
      exact ⟨_, rfl, rfl, Below.refl _ _⟩
    · intro a W hR hoff hd
      left
      refine ⟨rfl, ?_⟩
      have e0 : a.tmps.getD 10 undef = .pointer (some ⟨g, 1, none⟩) := hd 7 _ rfl rfl
      obtain ⟨_, c1, _, _⟩ := HG.out W hR
      go_simp
      exact ⟨_, rfl, rfl, Below.refl _ _⟩
    · intro a W hR hoff hd
      left
      refine ⟨rfl, ?_⟩
      have e0 : a.tmps.getD 11 undef = .slice A s.buf.length c := hd 8 _ rfl rfl
      have hl := Lib.hid (HB.out W hR)
      go_simp
      refine (clone_writes W A s.buf.length c (bufV s.buf) hl.out (bufV_one _) hn).mono ?_
      rintro e W2 ⟨B, k, rfl, h1, h2⟩
      exact ⟨_, rfl, ⟨B, k, rfl, own_up h1 hR.size⟩, h2⟩
    · intro a W hR hoff hd
      left
      refine ⟨rfl, ?_⟩
      have e0 : a.tmps.getD 0 undef = .pointer (some ⟨g, 0, none⟩) := hoff.slot 0 (no_dst (by kernel_rfl))
      go_simp
      exact ⟨_, rfl, rfl, Below.refl _ _⟩
    · intro a W hR hoff hd
      left
      refine ⟨rfl, ?_⟩
      have e0 : a.tmps.getD 13 undef = .pointer (some ⟨g, 0, none⟩) := hd 10 _ rfl rfl
      go_simp
      exact ⟨_, rfl, rfl, Below.refl _ _⟩
    · intro a W hR hoff hd
      left
      refine ⟨rfl, ?_⟩
      have e0 : a.tmps.getD 14 undef = .pointer (some ⟨g, 0, none⟩) := hd 11 _ rfl rfl
      go_simp
      exact ⟨_, rfl, rfl, Below.refl _ _⟩
    · intro a W hR hoff hd
      left
      refine ⟨rfl, ?_⟩
      have e0 : a.tmps.getD 15 undef = .pointer (some ⟨g, 2, none⟩) := hd 12 _ rfl rfl
      obtain ⟨_, _, c2, _⟩ := HG.out W hR
      go_simp
      exact ⟨_, rfl, rfl, Below.refl _ _⟩
    · intro a W hR hoff hd
      left
      refine ⟨rfl, ?_⟩
      obtain ⟨B, k, e7, h1⟩ : ∃ B k, a.tmps.getD 7 undef = .slice B s.last.length k ∧ W.ownsRow w.drew.heap.size 64 64 (.slice B s.last.length k) s.last.length (secV s.last) := hd 4 _ rfl rfl
      obtain ⟨B', k', e12, h2⟩ : ∃ B' k', a.tmps.getD 12 undef = .slice B' s.buf.length k' ∧ W.ownsRow w.drew.heap.size 66 65 (.slice B' s.buf.length k') s.buf.length (bufV s.buf) := hd 9 _ rfl rfl
      have e16 : a.tmps.getD 16 undef = .int .i64 s.left := hd 13 _ rfl rfl
      have H1 := Lib.hid h1
      have H2 := Lib.hid h2
      clear h1 h2
      have e7' : a.tmps[7]?.getD undef = .slice B s.last.length k := by simpa using e7
      have e12' : a.tmps[12]?.getD undef = .slice B' s.buf.length k' := by simpa using e12
      have e16' : a.tmps[16]?.getD undef = .int .i64 s.left := by simpa using e16
      go_simp
      exact ⟨_, rfl, ⟨B, k, B', k', rfl, H1.out, H2.out⟩, Below.refl _ _⟩
    · intro a W hR hoff hd
      left
      refine ⟨rfl, ?_⟩
      obtain ⟨B, k, B', k', e17, h1, h2⟩ : ∃ B k B' k', a.tmps.getD 17 undef = .agg #[.slice B s.last.length k, .slice B' s.buf.length k', .int .i64 s.left] ∧ W.ownsRow w.drew.heap.size 64 64 (.slice B s.last.length k) s.last.length (secV s.last) ∧ W.ownsRow w.drew.heap.size 66 65 (.slice B' s.buf.length k') s.buf.length (bufV s.buf) := hd 14 _ rfl rfl
      have HF := Lib.hid (clone_fin hok.out hR.size h1 h2)
      clear h1 h2
      go_simp
      exact ⟨_, rfl, HF.out, (Below.refl _ _).alloc (Nat.le_refl _) _⟩
    · intro a W hR hoff hd
      left
      refine ⟨rfl, ?_⟩
      have h18 : OwnDk w.drew.heap.size W s (a.tmps.getD 18 undef) := hd 15 _ rfl rfl
      generalize hv : a.tmps.getD 18 undef = v at h18
      have H18 := Lib.hid h18
      clear h18
      go_simp
      exact ⟨_, rfl, H18.out, Below.refl _ _⟩
  · intro a W hR hoff hd
    have h2 : OwnDk w.drew.heap.size W s (a.tmps.getD 2 undef) := hd 16 _ rfl
    rename_i hK
    refine hK _ _ ?_
    go_wp2
    refine bodyPost_ret (results_tmp rfl _ _ _) hoff.defers ?_
    exact ⟨_, rfl, h2, ((Below.refl _ _).drew).trans hR⟩
end Go.Proofs.Ytmajmohnnfjiaaa
