/- Tile of the reference of layer 9 where there is no error: its three loops; Tile as a contract. -/
import Derived.Test.YtibmoibhbgbfoaaCCheck
import Derived.Deep.DeepCutAuto
import Derived.Deep.DeepMust
namespace Go.Proofs.Ytibmoibhbgbfoaa
open Go.ChangeShapes Go.WideShapes Go.ChangeAt Go.RowKit
set_option linter.unusedVariables false
set_option linter.unusedSimpArgs false

/-- the same in the walk's own spelling -/
theorem iwrap {n r : Int} (h : wrap64 n = r) : IntKind.i64.wrap n = r := by rw [IntKind.wrap_i64]; unfold wrap64 at h; exact h
theorem down_meas {k n : Nat} (h : k < n) : n - (intOf (.int .i64 ((k : Int) + 1))).toNat < n - (intOf (.int .i64 (k : Int))).toNat := by
  simp only [intOf]; omega
/-- while a tile is filled: the arguments, the new plane, what is filled so far -/
structure TileS (W4 : World) (B Q g gc : Nat) (W H M : Int) (sl : Value) (q f x0 y0 x1 y1 : Int) (cw ch : Nat) (out : Int) (K : List Int) (w' : World) : Prop where
  args : ArgS W4 B W H M sl q f x0 y0 x1 y1 w'
  q0 : w'.cell? ⟨Q, 0, none⟩ = some (.int .i64 cw)
  q1 : w'.cell? ⟨Q, 1, none⟩ = some (.int .i64 ch)
  q2 : w'.cell? ⟨Q, 2, none⟩ = some (.int .i64 out)
  q3 : w'.cell? ⟨Q, 3, none⟩ = some (.slice (some ⟨g, 0, none⟩) K.length gc)
  pix : PixAt W4.heap.size w' g gc K
  far : ¬ g = B ∧ ¬ g = B + 1 ∧ ¬ g = B + 1 + 1 ∧ ¬ g = B + 1 + 1 + 1 ∧ ¬ g = Q
theorem TileS.more {W4 : World} {B Q g gc : Nat} {W H M : Int} {sl : Value} {q f x0 y0 x1 y1 : Int} {cw ch : Nat} {out : Int} {K : List Int} {w' w2 : World} (h : TileS W4 B Q g gc W H M sl q f x0 y0 x1 y1 cw ch out K w') (hb : Below w'.heap.size w' w2) : TileS W4 B Q g gc W H M sl q f x0 y0 x1 y1 cw ch out K w2 :=
  ⟨h.args.more hb, bkeep hb h.q0, bkeep hb h.q1, bkeep hb h.q2, bkeep hb h.q3, h.pix.below hb, h.far⟩
theorem TileS.store {W4 : World} {B Q g gc : Nat} {W H M : Int} {sl : Value} {q f x0 y0 x1 y1 : Int} {cw ch : Nat} {out : Int} {K : List Int} {w' : World} (h : TileS W4 B Q g gc W H M sl q f x0 y0 x1 y1 cw ch out K w') (k : Nat) (v : Int) :
    TileS W4 B Q g gc W H M sl q f x0 y0 x1 y1 cw ch out (K.set k v) (w'.setCell ⟨g, k, none⟩ (.int .i64 v)) := by
  obtain ⟨f0, f1, f2, f3, f4⟩ := h.far
  have hg := grown_set w' g k (.int .i64 v)
  have c : ∀ {b o u}, ¬ g = b → w'.cell? ⟨b, o, none⟩ = some u → (w'.setCell ⟨g, k, none⟩ (.int .i64 v)).cell? ⟨b, o, none⟩ = some u := fun hne hc => hg.cell hc (by simpa using Ne.symm hne)
  refine ⟨⟨h.args.below.setCell h.pix.lt.1 _, c f0 h.args.p0, c f0 h.args.p1, c f0 h.args.p2, c f0 h.args.p3, c f1 h.args.e0, c f1 h.args.e1, c f2 h.args.r0, c f2 h.args.r1, c f2 h.args.r2, c f2 h.args.r3, h.args.op.grown hg (by simpa using Ne.symm f3)⟩, c f4 h.q0, c f4 h.q1, c f4 h.q2, ?_, (h.pix.store k v).1, h.far⟩
  rw [List.length_set]; exact c f4 h.q3
theorem TileS.drewN {W4 : World} {B Q g gc : Nat} {W H M : Int} {sl : Value} {q f x0 y0 x1 y1 : Int} {cw ch : Nat} {out : Int} {K : List Int} {w' : World} (h : TileS W4 B Q g gc W H M sl q f x0 y0 x1 y1 cw ch out K w') (n : Nat) : TileS W4 B Q g gc W H M sl q f x0 y0 x1 y1 cw ch out K (w'.drewN n) := h.more (bdrewN (bref _) n)
/-- what the storing of one pixel reads and writes -/
abbrev PutS (B Q g D : Nat) (sg : Value) (x0 y0 : Int) (cw : Nat) (w' : World) : Prop :=
  w'.cell? ⟨B + 1 + 1, 0, none⟩ = some (.int .i64 x0) ∧ w'.cell? ⟨B + 1 + 1, 1, none⟩ = some (.int .i64 y0) ∧ w'.cell? ⟨Q, 0, none⟩ = some (.int .i64 cw) ∧ w'.cell? ⟨Q, 3, none⟩ = some sg ∧ w'.cell? ⟨g, D, none⟩ = some (valAt w' g D) ∧ w'.frozen? ⟨g, D, none⟩ = false
theorem putS_set {B Q g D : Nat} {sg : Value} {x0 y0 : Int} {cw : Nat} {w' : World} (hf : ¬ g = B + 1 + 1 ∧ ¬ g = Q) (h : PutS B Q g D sg x0 y0 cw w') (u : Value) : PutS B Q g D sg x0 y0 cw (w'.setCell ⟨g, D, none⟩ u) := by
  obtain ⟨h0, h1, h2, h3, h4, h5⟩ := h
  have hg := grown_set w' g D u
  have c : ∀ {b o u'}, ¬ g = b → w'.cell? ⟨b, o, none⟩ = some u' → (w'.setCell ⟨g, D, none⟩ u).cell? ⟨b, o, none⟩ = some u' := fun hne hc => hg.cell hc (by simpa using Ne.symm hne)
  have hs := World.cell?_setCell_same w' ⟨g, D, none⟩ u h4
  refine ⟨c hf.1 h0, c hf.1 h1, c hf.2 h2, c hf.2 h3, ?_, by rw [World.frozen?_setCell]; exact h5⟩
  rw [hs]; simp [valAt, hs]
theorem rpixel_is {W H M : Int} {L : List Int} {q f x y p : Int} (h : pixN W H L q f x y = p) (a : Option Addr) (cap : Nat) (w : World) (hs : SliceIs w a L) (hv : planeB W H M L = true) (x0 : -9223372036854775808 ≤ x) (x1 : x ≤ 9223372036854775807) (y0 : -9223372036854775808 ≤ y) (y1 : y ≤ 9223372036854775807) :
    Calls Try.prog 49 #[.agg #[.int .i64 W, .int .i64 H, .int .i64 M, .slice a L.length cap], .agg #[.int .i64 q, .int .i64 f], .int .i64 x, .int .i64 y] w (NumPost p w) := by
  rw [← h]; exact rpixel_any W H M L a cap q f x y w hs hv x0 x1 y0 y1
theorem rclamp_is {v m n : Int} (h : clampN v m = n) (w : World) : Calls Try.prog 50 #[.int .i64 v, .int .i64 m] w fun e w' => e = .returned (.int .i64 n) ∧ w = w' := by
  subst h; exact rclamp_any v m w
theorem convT_bd {W H M : Int} {P : List Int} {q f kw kh : Int} {K : List Int} (hv : planeB W H M P = true) (he : edgeB q f M = true) (hK : K.all weightB = true) (hM : M ≤ 4294967296) {n : Nat} (hn : n < K.length) (x y : Int) : -140733193388032 ≤ convT W H P q f kw kh K x y n ∧ convT W H P q f kw kh K x y n ≤ 140733193388032 := by
  have h1 := all_at hK hn
  have h2 := pix_bd hv he (x + (n : Int) % kw - kw / 2) (y + (n : Int) / kw - kh / 2)
  exact prod_p h1 (by omega)
theorem convS_bd {W H M : Int} {P : List Int} {q f kw kh : Int} {K : List Int} (hv : planeB W H M P = true) (he : edgeB q f M = true) (hK : K.all weightB = true) (hM : M ≤ 4294967296) (x y : Int) : ∀ n : Nat, n ≤ K.length → -(140733193388032 * (n : Int)) ≤ convS W H P q f kw kh K x y n ∧ convS W H P q f kw kh K x y n ≤ 140733193388032 * n
  | 0, _ => by simp [convS]
  | n + 1, h => by
    have ih := convS_bd (q := q) (f := f) (kw := kw) (kh := kh) hv he hK hM x y n (by omega)
    have h1 := convT_bd (q := q) (f := f) (kw := kw) (kh := kh) hv he hK hM (show n < K.length by omega) x y
    rw [convS_step]
    omega
/-- a step of the sum, each operation behind Go's wrap -/
theorem conv_wraps {W H M : Int} {P : List Int} {q f kw kh : Int} {K : List Int} (hv : planeB W H M P = true) (he : edgeB q f M = true) (hK : K.all weightB = true) (hM : M ≤ 4294967296) (k1 : 1 ≤ kw ∧ kw ≤ 9) (k2 : 1 ≤ kh ∧ kh ≤ 9) {n : Nat} (hn : n < K.length) (hn2 : n < 81) {x y : Int} (hx : 0 ≤ x ∧ x ≤ 128) (hy : 0 ≤ y ∧ y ≤ 128) :
    ∃ ra qa hw hh A X C Y v p T S S2 : Int, (n : Int).tmod kw = ra ∧ (n : Int).tdiv kw = qa ∧ kw.tdiv 2 = hw ∧ kh.tdiv 2 = hh ∧ IntKind.i64.wrap ra = ra ∧ IntKind.i64.wrap qa = qa ∧ IntKind.i64.wrap hw = hw ∧ IntKind.i64.wrap hh = hh ∧ IntKind.i64.wrap (x + ra) = A ∧ IntKind.i64.wrap (A - hw) = X ∧ IntKind.i64.wrap (y + qa) = C ∧ IntKind.i64.wrap (C - hh) = Y ∧
      x + ra = A ∧ A - hw = X ∧ y + qa = C ∧ C - hh = Y ∧ K.getD n 0 = v ∧ pixN W H P q f X Y = p ∧ IntKind.i64.wrap (v * p) = T ∧ IntKind.i64.wrap (S + T) = S2 ∧ convS W H P q f kw kh K x y n = S ∧ convS W H P q f kw kh K x y (n + 1) = S2 ∧ (-1000 ≤ X ∧ X ≤ 1000) ∧ (-1000 ≤ Y ∧ Y ≤ 1000) := by
  have e1 : (n : Int).tmod kw = (n : Int) % kw := Int.tmod_eq_emod_of_nonneg (by omega)
  have e2 : (n : Int).tdiv kw = (n : Int) / kw := Int.tdiv_eq_ediv_of_nonneg (by omega)
  have e3 : kw.tdiv 2 = kw / 2 := Int.tdiv_eq_ediv_of_nonneg (by omega)
  have e4 : kh.tdiv 2 = kh / 2 := Int.tdiv_eq_ediv_of_nonneg (by omega)
  have b1 : 0 ≤ (n : Int) % kw ∧ (n : Int) % kw < kw := ⟨Int.emod_nonneg _ (by omega), Int.emod_lt_of_pos _ (by omega)⟩
  have b2 : 0 ≤ (n : Int) / kw ∧ (n : Int) / kw ≤ n := ⟨Int.ediv_nonneg (by omega) (by omega), Int.ediv_le_self _ (by omega)⟩
  have b3 := convT_bd (q := q) (f := f) (kw := kw) (kh := kh) hv he hK hM hn x y
  have b4 := convS_bd (q := q) (f := f) (kw := kw) (kh := kh) hv he hK hM x y n (by omega)
  have b5 := convS_step W H P q f kw kh K x y n
  have b6 : convT W H P q f kw kh K x y n = K.getD n 0 * pixN W H P q f (x + (n : Int) % kw - kw / 2) (y + (n : Int) / kw - kh / 2) := rfl
  refine ⟨_, _, _, _, _, _, _, _, _, _, convT W H P q f kw kh K x y n, _, _, e1, e2, e3, e4, IntWalk.i64_in _ (by omega), IntWalk.i64_in _ (by omega), IntWalk.i64_in _ (by omega), IntWalk.i64_in _ (by omega), IntWalk.i64_in _ (by omega), IntWalk.i64_in _ (by omega), IntWalk.i64_in _ (by omega), IntWalk.i64_in _ (by omega), rfl, rfl, rfl, rfl, rfl, rfl, ?_, ?_, rfl, rfl, by omega, by omega⟩
  · rw [← b6]; exact IntWalk.i64_in _ (by omega)
  · rw [b5]; exact IntWalk.i64_in _ (by omega)
set_option maxRecDepth 100000 in
set_option maxHeartbeats 4000000 in
theorem rtile_6 (W H M : Int) (P : List Int) (a : Option Addr) (cap : Nat) (q f kw kh : Int) (K : List Int) (ka : Option Addr) (kl kc : Nat) (s out x0 y0 x1 y1 : Int) (w : World) (hs : SliceIs w a P) (hl : P.length ≤ 9223372036854775807) (hk : SliceIs w ka K) (ek : K.length = kl) (hkl : kl ≤ 9223372036854775807) (hv : planeB W H M P = true) (he : edgeB q f M = true) (hC0 : checkC M kw kh K s out = 0) (hf0 : fullB x0 y0 x1 y1 = true) (hi0 : insideB x0 y0 x1 y1 0 0 W H = true) :
    Calls Try.prog 21 #[.agg #[.int .i64 W, .int .i64 H, .int .i64 M, .slice a P.length cap], .agg #[.int .i64 q, .int .i64 f], .int .i64 kw, .int .i64 kh, .slice ka kl kc, .int .i64 s, .int .i64 out, .agg #[.int .i64 x0, .int .i64 y0, .int .i64 x1, .int .i64 y1]] w (CTilePost (x1 - x0) (y1 - y0) out (tileO W H M P q f kw kh K s out x0 y0 x1 y1) (tileC W H M P q f kw kh K s out x0 y0 x1 y1) w) := by
  obtain ⟨k1, k2, k3, k4, k5, k6, k7, k8⟩ := check_zero hC0
  have hok : cropOk W H M P x0 y0 x1 y1 := ⟨hv, by unfold fullB at hf0; simp at hf0; exact hf0.2, hi0⟩
  obtain ⟨⟨a0, a1, a2⟩, b0, b1, b2⟩ := cropOk_bd hok
  obtain ⟨hsz, hlen, _⟩ := planeB_t.1 hv
  obtain ⟨⟨w1, w2⟩, ⟨h1, h2⟩, hp, m1, m2⟩ := sizeB_t.1 hsz
  obtain ⟨cw, hcw⟩ : ∃ cw : Nat, x1 - x0 = cw := ⟨(x1 - x0).toNat, by omega⟩
  obtain ⟨ch, hch⟩ : ∃ ch : Nat, y1 - y0 = ch := ⟨(y1 - y0).toNat, by omega⟩
  have hzs : sizeB cw ch out = true := by
    have h := cropOk_size hok
    rw [hcw, hch] at h
    obtain ⟨j1, j2, j3, j4⟩ := sizeB_t.1 h
    exact sizeB_t.2 ⟨j1, j2, j3, k7⟩
  have hzo := Lib.hid hzs
  have hc := Lib.hid (show tileC W H M P q f kw kh K s out x0 y0 x1 y1 = 0 from by unfold tileC; rw [if_neg (by simp [hv, he]), hC0, if_neg (by simp), if_neg (by simp [hf0, hi0])])
  have hO := Lib.hid (show tileO W H M P q f kw kh K s out x0 y0 x1 y1 = some (convL W H P q f kw kh K s out x0 y0 x1 y1) from by unfold tileO; rw [hc.out, if_pos rfl])
  obtain ⟨C, hCe⟩ : ∃ C, convL W H P q f kw kh K s out x0 y0 x1 y1 = C := ⟨_, rfl⟩
  have hCl : C.length = cw * ch := by rw [← hCe, convL_len, hcw, hch]; exact_mod_cast rfl
  have hCa := Lib.hid (show ∀ j, j < cw * ch → C.getD j 0 = convAt W H P q f kw kh K s out x0 y0 cw j from fun j hj => by
    rw [← hCe, ← hcw]; refine convL_at ?_; rw [hcw, hch]; exact_mod_cast hj)
  rw [hCe] at hO
  have hcc : cw * ch ≤ 4096 := by
    have h := (sizeB_t.1 hzs).2.2.1
    have e : ((cw : Int) * (ch : Int)) = ((cw * ch : Nat) : Int) := by push_cast; rfl
    rw [e] at h; omega
  have hk81 : kl ≤ 81 := by
    have j1 : kw * kh ≤ 9 * 9 := Int.mul_le_mul k1.2 k2.2 (by omega) (by omega)
    omega
  have hCl' := Lib.hid hCl
  have hwx : wrap64 (x1 - x0) = (cw : Int) := by rw [hcw]; unfold wrap64; omega
  have hwy : wrap64 (y1 - y0) = (ch : Int) := by rw [hch]; unfold wrap64; omega
  have hCV : Hid (∀ n : Nat, n < kl → ∀ x y : Int, (0 ≤ x ∧ x ≤ 128) → (0 ≤ y ∧ y ≤ 128) → ∃ ra qa hw hh A X C Y v p T S S2 : Int, (n : Int).tmod kw = ra ∧ (n : Int).tdiv kw = qa ∧ kw.tdiv 2 = hw ∧ kh.tdiv 2 = hh ∧ IntKind.i64.wrap ra = ra ∧ IntKind.i64.wrap qa = qa ∧ IntKind.i64.wrap hw = hw ∧ IntKind.i64.wrap hh = hh ∧ IntKind.i64.wrap (x + ra) = A ∧ IntKind.i64.wrap (A - hw) = X ∧ IntKind.i64.wrap (y + qa) = C ∧ IntKind.i64.wrap (C - hh) = Y ∧
      x + ra = A ∧ A - hw = X ∧ y + qa = C ∧ C - hh = Y ∧ K.getD n 0 = v ∧ pixN W H P q f X Y = p ∧ IntKind.i64.wrap (v * p) = T ∧ IntKind.i64.wrap (S + T) = S2 ∧ convS W H P q f kw kh K x y n = S ∧ convS W H P q f kw kh K x y (n + 1) = S2 ∧ (-1000 ≤ X ∧ X ≤ 1000) ∧ (-1000 ≤ Y ∧ Y ≤ 1000)) :=
    Lib.hid (fun n hn x y hx hy => conv_wraps hv he k4 k6.2 k1 k2 (by omega) (by omega) hx hy)
  have hkw0 : ¬ kw = 0 := by omega
  have hkw1 : (kw == 0) = false := by simpa using hkw0
  have hxb := Lib.hid (show x0 + cw ≤ 128 ∧ y0 + ch ≤ 128 ∧ 0 ≤ x0 ∧ 0 ≤ y0 ∧ x0 + cw = x1 ∧ y0 + ch = y1 by omega)
  have hs' := Lib.hid hs
  have hk' := Lib.hid hk
  have hl' := Lib.hid hl
  have hkl' := Lib.hid hkl
  have ek' := Lib.hid ek
  have hv' := Lib.hid hv
  have he' := Lib.hid he
  have hC := Lib.hid hC0
  have hF := Lib.hid hf0
  have hI := Lib.hid hi0
  clear hv he hC0 hf0 hi0 k1 k2 k3 k4 k5 k6 k7 k8 hok a0 a1 a2 b0 b1 b2 hsz hlen w1 w2 h1 h2 hp m1 m2 hzs hCe hCl hcw hch
  clear hs hk hl hkl ek
  go_enter Try.func21, Try.ntmps21
  go_wp2_with fail
  obtain ⟨W4, eW4⟩ : ∃ W4, (((w.alloc (.cells #[.int .i64 W, .int .i64 H, .int .i64 M, .slice a P.length cap] 35)).alloc (.cells #[.int .i64 q, .int .i64 f] 38)).alloc (.cells #[.int .i64 x0, .int .i64 y0, .int .i64 x1, .int .i64 y1] 33)).alloc (.cells #[.int .i64 0, .int .i64 0, .int .i64 0, .slice none 0 0] 35) = W4 := ⟨_, rfl⟩
  obtain ⟨hA, hB, hz⟩ := args_start w W H M (.slice a P.length cap) q f x0 y0 x1 y1 35 38 33 35 (.int .i64 0) (.int .i64 0) (.int .i64 0) (.slice none 0 0) eW4
  simp only [eW4]
  clear eW4
  have hsb := Lib.hid (is_below hs'.out hB)
  have hkb := Lib.hid (is_below hk'.out hB)
  have hB' := Lib.hid hB
  have hz' := Lib.hid hz
  clear hB hz
  refine (rpvalid_is hv'.out _ _ _ hsb.out hl'.out).mono ?_; rintro e w1 ⟨rfl, hb⟩
  replace hA := hA.more hb
  obtain ⟨hbl, p0, p1, p2, p3, e0, e1, r0, r1, r2, r3, hop⟩ := id hA
  clear hbl hop
  go_wp2_with fail
  refine (redge_is' _ he'.out).mono ?_; rintro e w2 ⟨rfl, hb2⟩
  clear p0 p1 p2 p3 e0 e1 r0 r1 r2 r3
  replace hA := hA.more hb2
  obtain ⟨hbl, p0, p1, p2, p3, e0, e1, r0, r1, r2, r3, hop⟩ := id hA
  clear hbl hop
  go_wp2_with fail
  refine (rcheck_n M kw kh K s out kl ek'.out _ _ _ (is_below hkb.out hA.below) hkl'.out).mono ?_; rintro e w3 ⟨rfl, hb3⟩
  rw [hC.out]
  clear p0 p1 p2 p3 e0 e1 r0 r1 r2 r3
  replace hA := hA.more hb3
  obtain ⟨hbl, p0, p1, p2, p3, e0, e1, r0, r1, r2, r3, hop⟩ := id hA
  clear hbl hop
  go_upto_region 6 with fail
  clear p0 p1 p2 p3 e0 e1 r0 r1 r2 r3
  haveI : Nonempty (In (ArgS W4 w.heap.size W H M (.slice a P.length cap) q f x0 y0 x1 y1)) := ⟨⟨_, hA⟩⟩
  have g0 : ∀ s : In (ArgS W4 w.heap.size W H M (.slice a P.length cap) q f x0 y0 x1 y1), s.w.cell? ⟨w.heap.size, 0, none⟩ = some (.int .i64 W) := fun s => s.h.p0
  have g1 : ∀ s : In (ArgS W4 w.heap.size W H M (.slice a P.length cap) q f x0 y0 x1 y1), s.w.cell? ⟨w.heap.size, 1, none⟩ = some (.int .i64 H) := fun s => s.h.p1
  have g2 : ∀ s : In (ArgS W4 w.heap.size W H M (.slice a P.length cap) q f x0 y0 x1 y1), s.w.cell? ⟨w.heap.size, 2, none⟩ = some (.int .i64 M) := fun s => s.h.p2
  have g3 : ∀ s : In (ArgS W4 w.heap.size W H M (.slice a P.length cap) q f x0 y0 x1 y1), s.w.cell? ⟨w.heap.size, 3, none⟩ = some (.slice a P.length cap) := fun s => s.h.p3
  have g4 : ∀ s : In (ArgS W4 w.heap.size W H M (.slice a P.length cap) q f x0 y0 x1 y1), s.w.cell? ⟨w.heap.size + 1 + 1, 0, none⟩ = some (.int .i64 x0) := fun s => s.h.r0
  have g5 : ∀ s : In (ArgS W4 w.heap.size W H M (.slice a P.length cap) q f x0 y0 x1 y1), s.w.cell? ⟨w.heap.size + 1 + 1, 1, none⟩ = some (.int .i64 y0) := fun s => s.h.r1
  have g6 : ∀ s : In (ArgS W4 w.heap.size W H M (.slice a P.length cap) q f x0 y0 x1 y1), s.w.cell? ⟨w.heap.size + 1 + 1, 2, none⟩ = some (.int .i64 x1) := fun s => s.h.r2
  have g7 : ∀ s : In (ArgS W4 w.heap.size W H M (.slice a P.length cap) q f x0 y0 x1 y1), s.w.cell? ⟨w.heap.size + 1 + 1, 3, none⟩ = some (.int .i64 y1) := fun s => s.h.r3
  refine wp_region_in (S := ArgS W4 w.heap.size W H M (.slice a P.length cap) q f x0 y0 x1 y1) (by kernel_rfl) (by kernel_rfl) (hA.more (bdrew1 (bref _))) ?_
  repeat (go_big_quiet_step (first | (go_at_call 45; exact in_below _ (fun hb h => h.more hb) (rfull_is hF.out _)) | (go_at_call 47; exact in_below _ (fun hb h => h.more hb) (rcover_any _ _ _ _ _)) | (go_at_call 46; exact in_below _ (fun hb h => h.more hb) (rinside_is hI.out _))))
  refine wpQuiet_nil ?_
  rintro _ ⟨s9, rfl⟩
  have hA := s9.h
  clear g0 g1 g2 g3 g4 g5 g6 g7
  obtain ⟨hbl, p0, p1, p2, p3, e0, e1, r0, r1, r2, r3, hop⟩ := id hA
  clear hbl hop
  go_wp2_with fail
  refine (rpnew_is hzo.out _).mono ?_; rintro e wN ⟨g, gc, rfl, hPix, hb⟩
  simp only [pv]
  clear p0 p1 p2 p3 e0 e1 r0 r1 r2 r3
  have hgl := hPix.lt
  have hsz9 : W4.heap.size ≤ s9.w.heap.size := hA.below.size
  have hC0 : TileS W4 w.heap.size wN.heap.size g gc W H M (.slice a P.length cap) q f x0 y0 x1 y1 cw ch out (List.replicate (cw * ch) 0) (wN.alloc (.cells #[.int .i64 cw, .int .i64 ch, .int .i64 out, .slice (some ⟨g, 0, none⟩) (cw * ch) gc] 35)) :=
    ⟨(hA.more hb).more (balloc (bref _) _), by go_cell, by go_cell, by go_cell, by rw [List.length_replicate]; go_cell, (hPix.base hsz9).below (balloc (bref _) _), by have := hz'.out; omega⟩
  replace hC0 := Lib.hid hC0
  clear hb hPix hgl hsz9 hA hwx hwy
  have r1 := hC0.out.args.r1
  go_wp2_with fail
  clear r1
  go_loopw [21] (fun y wr => ∃ (k : Nat) (Kp : List Int), k ≤ ch ∧ y = .int .i64 (y0 + k) ∧ Hid (Kp.length = cw * ch ∧ Agree Kp C (k * cw)) ∧ Hid (TileS W4 w.heap.size wN.heap.size g gc W H M (.slice a P.length cap) q f x0 y0 x1 y1 cw ch out Kp wr)) (fun y _ => (y0 + ch - intOf y).toNat)
  case atStart => exact ⟨0, _, by omega, by simp, Lib.hid ⟨by simp, by rw [Nat.zero_mul]; exact agree_zero _ _⟩, hC0⟩
  case round =>
    clear hC0
    obtain ⟨k, Kp, hk, rfl, hKp, hS⟩ := hrel
    by_cases hlt : k < ch
    · have hyy : y0 + k < y1 := by have := hxb.out; omega
      have wy1 : wrap64 (y0 + k + 1) = y0 + k + 1 := by have := hxb.out; unfold wrap64; omega
      have my1 : (y0 + ch - (y0 + (k : Int) + 1)).toNat < (y0 + ch - (y0 + (k : Int))).toNat := by omega
      have hkc : k + 1 ≤ ch := hlt
      obtain ⟨hbl, p0, p1, p2, p3, e0, e1, r0, r1, r2, r3, hop⟩ := id hS.out.args
      clear hbl hop
      go_wp2_with fail
      clear p0 p1 p2 p3 e0 e1 r0 r1 r2 r3
      go_loopw [22] (fun x wr => ∃ (j : Nat) (Kp : List Int), j ≤ cw ∧ x = .int .i64 (x0 + j) ∧ Hid (Kp.length = cw * ch ∧ Agree Kp C (k * cw + j)) ∧ Hid (TileS W4 w.heap.size wN.heap.size g gc W H M (.slice a P.length cap) q f x0 y0 x1 y1 cw ch out Kp wr)) (fun x _ => (x0 + cw - intOf x).toNat)
      case atStart => exact ⟨0, Kp, by omega, by simp, Lib.hid ⟨hKp.out.1, by rw [Nat.add_zero]; exact hKp.out.2⟩, hS⟩
      case round =>
        clear hKp hS
        obtain ⟨j, Kp, hj, rfl, hKp, hS⟩ := hrel
        by_cases hltj : j < cw
        · have hxx : x0 + j < x1 := by have := hxb.out; omega
          have wx1 : wrap64 (x0 + j + 1) = x0 + j + 1 := by have := hxb.out; unfold wrap64; omega
          have mx1 : (x0 + cw - (x0 + (j : Int) + 1)).toNat < (x0 + cw - (x0 + (j : Int))).toNat := by omega
          have hjc : j + 1 ≤ cw := hltj
          have hXb : Hid (0 ≤ x0 + (j : Int) ∧ x0 + (j : Int) ≤ 128) := Lib.hid (by have := hxb.out; omega)
          have hYb : Hid (0 ≤ y0 + (k : Int) ∧ y0 + (k : Int) ≤ 128) := Lib.hid (by have := hxb.out; omega)
          have hP : Hid (clampN (shiftN (convS W H P q f kw kh K (x0 + j) (y0 + k) kl) s) out = C.getD (k * cw + j) 0) := Lib.hid (by
            have hlk : k * cw + j < cw * ch := by
              have h1 : (k + 1) * cw ≤ ch * cw := Nat.mul_le_mul_right _ (by omega)
              rw [Nat.add_one_mul] at h1
              rw [Nat.mul_comm cw ch]; omega
            rw [hCa.out _ hlk]
            unfold convAt convP
            have e1 : ((k * cw + j : Nat) : Int) % cw = j := by
              push_cast
              rw [Int.add_comm, Int.add_mul_emod_self_right]
              exact Int.emod_eq_of_lt (by omega) (by omega)
            have e2 : ((k * cw + j : Nat) : Int) / cw = k := by
              push_cast
              rw [Int.add_comm, Int.add_mul_ediv_right _ _ (by omega), Int.ediv_eq_zero_of_lt (by omega) (by omega)]; omega
            rw [e1, e2, ek'.out])
          obtain ⟨xx, exx⟩ : ∃ xx, x0 + (j : Int) = xx := ⟨_, rfl⟩
          obtain ⟨yy, eyy⟩ : ∃ yy, y0 + (k : Int) = yy := ⟨_, rfl⟩
          have EXX := Lib.hid exx
          have EYY := Lib.hid eyy
          rw [exx] at hXb hP hxx
          rw [eyy] at hYb hP hyy
          obtain ⟨hbl, p0, p1, p2, p3, e0, e1, r0, r1, r2, r3, hop⟩ := id hS.out.args
          clear hbl hop
          go_wp2_with fail
          clear p0 p1 p2 p3 e0 e1 r0 r1 r2 r3
          rw [exx] at wx1 mx1
          rw [exx, eyy]
          clear exx eyy
          go_loopw [23, 24] (fun sv iv wr => ∃ n : Nat, n ≤ kl ∧ iv = .int .i64 n ∧ sv = .int .i64 (convS W H P q f kw kh K xx yy n) ∧ Hid (TileS W4 w.heap.size wN.heap.size g gc W H M (.slice a P.length cap) q f x0 y0 x1 y1 cw ch out Kp wr)) (fun _ iv _ => kl - (intOf iv).toNat)
          case atStart => exact ⟨0, by omega, rfl, by simp [convS], Lib.hid (hS.out.more (by first | exact bref _ | exact bdrewN (bref _) _))⟩
          case round =>
            clear hS
            obtain ⟨n, hn, rfl, rfl, hS⟩ := hrel
            by_cases hnl : n < kl
            · have hnI : (n : Int) < kl := by omega
              have wn1 : wrap64 ((n : Int) + 1) = (n : Int) + 1 := by unfold wrap64; omega
              have hn1 : n + 1 ≤ kl := hnl
              have hmn := down_meas hnl
              obtain ⟨ra, qa, hw, hh, A, X, C1, Y, v, p, T, S, S2, t1, t2, t3, t4, t5, t6, t7, t8, t9, t10, t11, t12, t13, t14, t15, t16, t17, t18, t19, t20, t21, t22, t23, t24⟩ := hCV.out n hnl xx yy hXb.out hYb.out
              obtain ⟨wb, wo, rfl, hcell⟩ := hkb.out n (by rw [ek'.out]; exact hnl)
              rw [t17] at hcell
              have EP := Lib.hid t18
              have ES2 := Lib.hid t22
              have hXY := Lib.hid (show (-9223372036854775808 ≤ X ∧ X ≤ 9223372036854775807) ∧ (-9223372036854775808 ≤ Y ∧ Y ≤ 9223372036854775807) by omega)
              rw [t21]
              haveI : Nonempty (In (TileS W4 w.heap.size wN.heap.size g gc W H M (.slice a P.length cap) q f x0 y0 x1 y1 cw ch out Kp)) := ⟨⟨_, hS.out⟩⟩
              have g0 : ∀ s : In (TileS W4 w.heap.size wN.heap.size g gc W H M (.slice a P.length cap) q f x0 y0 x1 y1 cw ch out Kp), s.w.cell? ⟨w.heap.size, 0, none⟩ = some (.int .i64 W) := fun s => s.h.args.p0
              have g1 : ∀ s : In (TileS W4 w.heap.size wN.heap.size g gc W H M (.slice a P.length cap) q f x0 y0 x1 y1 cw ch out Kp), s.w.cell? ⟨w.heap.size, 1, none⟩ = some (.int .i64 H) := fun s => s.h.args.p1
              have g2 : ∀ s : In (TileS W4 w.heap.size wN.heap.size g gc W H M (.slice a P.length cap) q f x0 y0 x1 y1 cw ch out Kp), s.w.cell? ⟨w.heap.size, 2, none⟩ = some (.int .i64 M) := fun s => s.h.args.p2
              have g3 : ∀ s : In (TileS W4 w.heap.size wN.heap.size g gc W H M (.slice a P.length cap) q f x0 y0 x1 y1 cw ch out Kp), s.w.cell? ⟨w.heap.size, 3, none⟩ = some (.slice a P.length cap) := fun s => s.h.args.p3
              have g4 : ∀ s : In (TileS W4 w.heap.size wN.heap.size g gc W H M (.slice a P.length cap) q f x0 y0 x1 y1 cw ch out Kp), s.w.cell? ⟨w.heap.size + 1, 0, none⟩ = some (.int .i64 q) := fun s => s.h.args.e0
              have g5 : ∀ s : In (TileS W4 w.heap.size wN.heap.size g gc W H M (.slice a P.length cap) q f x0 y0 x1 y1 cw ch out Kp), s.w.cell? ⟨w.heap.size + 1, 1, none⟩ = some (.int .i64 f) := fun s => s.h.args.e1
              have g6 : ∀ s : In (TileS W4 w.heap.size wN.heap.size g gc W H M (.slice a P.length cap) q f x0 y0 x1 y1 cw ch out Kp), s.w.cell? ⟨wb, wo + n, none⟩ = some (.int .i64 v) := fun s => bkeep s.h.args.below hcell
              clear t13 t14 t15 t16 t17 t18 t21 t22 t23 t24 hcell
              go_wp2_with fail
              refine wp_region_in (S := TileS W4 w.heap.size wN.heap.size g gc W H M (.slice a P.length cap) q f x0 y0 x1 y1 cw ch out Kp) (by kernel_rfl) (by kernel_rfl) (hS.out.more (bdrew1 (bref _))) ?_
              repeat (go_big_quiet_step ((go_at_call 49; exact in_below _ (fun hb h => h.more hb) (rpixel_is EP.out _ _ _ (is_below hsb.out (show Below W4.heap.size W4 _ from (In.h (S := TileS W4 w.heap.size wN.heap.size g gc W H M (.slice a P.length cap) q f x0 y0 x1 y1 cw ch out Kp) _).args.below)) hv'.out hXY.out.1.1 hXY.out.1.2 hXY.out.2.1 hXY.out.2.2))))
              refine wpQuiet_nil ?_
              rintro _ ⟨s8, rfl⟩
              clear g0 g1 g2 g3 g4 g5 g6 t1 t2 t3 t4 t5 t6 t7 t8 t9 t10 t11 t12 t19 t20
              go_wp2_with fail
              exact ⟨⟨n + 1, hn1, by (try rw [wn1]); exact congrArg (Value.int .i64) (by omega), by rw [ES2.out], Lib.hid s8.h⟩, by (try rw [wn1]); exact hmn⟩
            · obtain rfl : n = kl := by omega
              have hlk : k * cw + j < cw * ch := by
                have h1 : (k + 1) * cw ≤ ch * cw := Nat.mul_le_mul_right _ (by omega)
                rw [Nat.add_one_mul] at h1
                rw [Nat.mul_comm cw ch]; omega
              obtain ⟨sm, esm⟩ : ∃ sm, convS W H P q f kw kh K xx yy n = sm := ⟨_, rfl⟩
              obtain ⟨sf, esf⟩ : ∃ sf, shiftN sm s = sf := ⟨_, rfl⟩
              obtain ⟨V, eV⟩ : ∃ V, clampN sf out = V := ⟨_, rfl⟩
              have hVC := hP.out
              rw [esm, esf, eV] at hVC
              rw [esm]
              have ESF := Lib.hid esf
              have EVV := Lib.hid eV
              obtain ⟨S, eS⟩ : ∃ S : Nat, (k : Int) * cw = S := ⟨k * cw, by push_cast; rfl⟩
              have eSn : k * cw = S := by exact_mod_cast eS
              rw [eSn] at hlk hVC hKp
              obtain ⟨D, eD⟩ : ∃ D : Nat, S + j = D := ⟨_, rfl⟩
              rw [eD] at hlk hVC hKp
              have hDl : D < Kp.length := by rw [hKp.out.1]; exact hlk
              have hD4 : D < 4096 := Nat.lt_of_lt_of_le hlk hcc
              have hD1 : (D : Int) < Kp.length := by omega
              have hdc := hS.out.pix.cell hDl
              have hdf := hS.out.pix.frozen D
              have hS2 := Lib.hid ((hS.out.drewN 1).store D V)
              have hK2 := Lib.hid (show (Kp.set D V).length = cw * ch ∧ Agree (Kp.set D V) C (D + 1) from ⟨by rw [List.length_set]; exact hKp.out.1, agree_set hKp.out.2 hDl hVC⟩)
              have HVC := Lib.hid hVC
              clear hVC
              have x1e : yy - y0 = k := by have := EYY.out; omega
              have x3e : (S : Int) + xx - x0 = D := by have := EXX.out; omega
              have xb := EXX.out
              have hkb2 : (k : Int) ≤ 128 := by have := hxb.out; omega
              have f1 : IntKind.i64.wrap (k : Int) = (k : Int) := IntWalk.i64_in _ (by omega)
              have f2 : IntKind.i64.wrap (D : Int) = (D : Int) := IntWalk.i64_in _ (by omega)
              have f3 : IntKind.i64.wrap (S : Int) = (S : Int) := IntWalk.i64_in _ (by omega)
              have e1 : IntKind.i64.wrap (yy - y0) = (k : Int) := by rw [x1e]; exact f1
              have e2 : IntKind.i64.wrap ((k : Int) * cw) = S := by rw [eS]; exact f3
              have e3 : IntKind.i64.wrap ((S : Int) + xx) = (S : Int) + xx := IntWalk.i64_in _ (by have := hxb.out; omega)
              have e4 : IntKind.i64.wrap ((S : Int) + xx - x0) = (D : Int) := by rw [x3e]; exact f2
              have hfar := hS.out.far
              have hff : ¬ g = w.heap.size + 1 + 1 ∧ ¬ g = wN.heap.size := ⟨hfar.2.2.1, hfar.2.2.2.2⟩
              have hPx : PutS w.heap.size wN.heap.size g D (.slice (some ⟨g, 0, none⟩) Kp.length gc) x0 y0 cw wr.drew :=
                ⟨hS.out.args.r0, hS.out.args.r1, hS.out.q0, hS.out.q3, (show wr.cell? ⟨g, D, none⟩ = some (valAt wr g D) by simp [valAt, hdc]), hdf⟩
              have eDn' := Lib.hid (show k * cw + (j + 1) = D + 1 by omega)
              clear esm esf eV hDl hlk hfar eSn eD xb
              go_wp2_with fail
              haveI : Nonempty (In (PutS w.heap.size wN.heap.size g D (.slice (some ⟨g, 0, none⟩) Kp.length gc) x0 y0 cw)) := ⟨⟨_, hPx⟩⟩
              have u0 : ∀ s : In (PutS w.heap.size wN.heap.size g D (.slice (some ⟨g, 0, none⟩) Kp.length gc) x0 y0 cw), s.w.cell? ⟨w.heap.size + 1 + 1, 0, none⟩ = some (.int .i64 x0) := fun s => s.h.1
              have u1 : ∀ s : In (PutS w.heap.size wN.heap.size g D (.slice (some ⟨g, 0, none⟩) Kp.length gc) x0 y0 cw), s.w.cell? ⟨w.heap.size + 1 + 1, 1, none⟩ = some (.int .i64 y0) := fun s => s.h.2.1
              have u2 : ∀ s : In (PutS w.heap.size wN.heap.size g D (.slice (some ⟨g, 0, none⟩) Kp.length gc) x0 y0 cw), s.w.cell? ⟨wN.heap.size, 0, none⟩ = some (.int .i64 cw) := fun s => s.h.2.2.1
              have u3 : ∀ s : In (PutS w.heap.size wN.heap.size g D (.slice (some ⟨g, 0, none⟩) Kp.length gc) x0 y0 cw), s.w.cell? ⟨wN.heap.size, 3, none⟩ = some (.slice (some ⟨g, 0, none⟩) Kp.length gc) := fun s => s.h.2.2.2.1
              refine wp_region_noPanic ?_
              refine wp_region_held_drew (S := fun w' => ∃ s : In (PutS w.heap.size wN.heap.size g D (.slice (some ⟨g, 0, none⟩) Kp.length gc) x0 y0 cw), w' = s.w) (by kernel_rfl) ⟨⟨World.drew _, hPx⟩, rfl⟩ (fun hHeld => ?_)
              refine held_run 16 0 5 rfl (by decide) (by kernel_rfl) (by kernel_rfl) (by kernel_rfl) (fun _ _ _ _ _ h => h) hHeld ?_
              simp only [List.take_succ_cons, List.take_zero, List.drop_succ_cons, List.drop_zero]
              repeat (go_big_quiet_step (fail))
              refine wpQuiet_nil ?_
              refine held_run 1 17 4 rfl (by decide) (by kernel_rfl) (by kernel_rfl) (by kernel_rfl) (fun _ _ _ _ _ h => h) hHeld ?_
              simp only [List.take_succ_cons, List.take_zero, List.drop_succ_cons, List.drop_zero]
              repeat (go_big_quiet_step (fail))
              refine wpQuiet_nil ?_
              refine wpAnyH_ready (rs := [16]) (by kernel_rfl) (by simp) (AllReadyH.cons rfl (fun KQ hKQ => ?_) AllReadyH.nil)
              go_simp
              go_at_call 51; refine (rshift_is ESF.out _).mono ?_; rintro e w9 ⟨rfl, rfl⟩
              go_wp2_with fail
              refine hKQ.out _ _ ⟨⟨_, hPx⟩, rfl⟩ (fun hHeld2 => ?_)
              clear hKQ KQ
              try simp only [Act.put, List.setIfInBounds_toArray, List.set_cons_zero, List.set_cons_succ]
              refine wpAnyH_ready (rs := [18]) (by kernel_rfl) (by simp) (AllReadyH.cons rfl (fun KQ hKQ => ?_) AllReadyH.nil)
              go_simp
              go_at_call 50; refine (rclamp_is EVV.out _).mono ?_; rintro e w9 ⟨rfl, rfl⟩
              go_wp2_with fail
              refine hKQ.out _ _ ⟨⟨_, hPx⟩, rfl⟩ (fun hHeld2 => ?_)
              clear hKQ KQ
              try simp only [Act.put, List.setIfInBounds_toArray, List.set_cons_zero, List.set_cons_succ]
              refine held_run 1 19 1 rfl (by decide) (by kernel_rfl) (by kernel_rfl) (by kernel_rfl) (fun _ _ _ _ _ h => h) hHeld ?_
              simp only [List.take_succ_cons, List.take_zero, List.drop_succ_cons, List.drop_zero]
              repeat (go_big_quiet_step (fail))
              refine wpQuiet_nil ?_
              refine wpAnyH_ready (rs := [20]) (by kernel_rfl) (by simp) (AllReadyH.cons rfl (fun KQ hKQ => ?_) AllReadyH.nil)
              go_simp
              refine hKQ.out _ _ ⟨⟨_, putS_set hff hPx _⟩, rfl⟩ (fun hHeld2 => ?_)
              clear hKQ KQ u0 u1 u2 u3
              refine wpAnyH_done (by kernel_rfl) ?_ _
              refine NoPanic.normal ?_
              go_wp2_with fail
              have t1 := EXX.out
              have t2 := EYY.out
              subst t1
              subst t2
              clear EXX EYY
              go_roundw
              case rel => exact ⟨j + 1, _, hjc, by (try rw [wx1]); exact congrArg (Value.int .i64) (by omega), Lib.hid (by rw [eDn'.out]; exact hK2.out), hS2⟩
              case measure => (try rw [wx1]); simp only [intOf]; exact mx1
        · obtain rfl : j = cw := by omega
          have hge : ¬ x0 + (j : Int) < x1 := by have := hxb.out; omega
          obtain ⟨hbl, p0, p1, p2, p3, e0, e1, r0, r1, r2, r3, hop⟩ := id hS.out.args
          clear hbl hop
          go_wp2_with fail
          clear p0 p1 p2 p3 e0 e1 r0 r1 r2 r3
          go_roundw
          case rel => exact ⟨k + 1, Kp, hkc, by (try rw [wy1]); exact congrArg (Value.int .i64) (by omega), Lib.hid ⟨hKp.out.1, by rw [Nat.add_one_mul]; exact hKp.out.2⟩, hS⟩
          case measure => (try rw [wy1]); simp only [intOf]; exact my1
    · obtain rfl : k = ch := by omega
      have hge : ¬ y0 + (k : Int) < y1 := by have := hxb.out; omega
      have hKC := Lib.hid (agree_done hKp.out.2 (by rw [hCl'.out]; exact hKp.out.1) (by rw [hKp.out.1, Nat.mul_comm]))
      obtain ⟨q0, q1, q2, q3⟩ := And.intro hS.out.q0 (And.intro hS.out.q1 (And.intro hS.out.q2 hS.out.q3))
      obtain ⟨⟨v0, o0, f0⟩, ⟨v1, o1, f1⟩, ⟨v2, o2, f2⟩, ⟨v3, o3, f3⟩⟩ := open_cells hS.out.args.op
      have r3 := hS.out.args.r3
      go_wp2_with fail
      rw [hO.out, show x1 - x0 = (cw : Int) by have := hxb.out; omega, show y1 - y0 = (k : Int) by have := hxb.out; omega]
      refine ret_plane2 Try.results21 rfl rfl rfl hS.out.args.op ⟨bput4 (bthen hB'.out hS.out.args.below) (by omega) _ _ _ _, g, gc, ?_, ?_⟩
      · rw [hKC.out]; rfl
      · rw [← hKC.out]
        obtain ⟨g0, g1, g2, g3, g4⟩ := hS.out.far
        exact (hS.out.pix.base (by have := hz'.out; omega)).grown (gput4 (gref _ (some (w.heap.size + 1 + 1 + 1))) (.inr rfl) _ _ _ _) (by simpa using g3)
theorem rtile_any (W H M : Int) (P : List Int) (a : Option Addr) (cap : Nat) (q f kw kh : Int) (K : List Int) (ka : Option Addr) (kl kc : Nat) (s out x0 y0 x1 y1 : Int) (w : World) (hs : SliceIs w a P) (hl : P.length ≤ 9223372036854775807) (hk : SliceIs w ka K) (ek : K.length = kl) (hkl : kl ≤ 9223372036854775807) :
    Calls Try.prog 21 #[.agg #[.int .i64 W, .int .i64 H, .int .i64 M, .slice a P.length cap], .agg #[.int .i64 q, .int .i64 f], .int .i64 kw, .int .i64 kh, .slice ka kl kc, .int .i64 s, .int .i64 out, .agg #[.int .i64 x0, .int .i64 y0, .int .i64 x1, .int .i64 y1]] w (CTilePost (x1 - x0) (y1 - y0) out (tileO W H M P q f kw kh K s out x0 y0 x1 y1) (tileC W H M P q f kw kh K s out x0 y0 x1 y1) w) := by
  rcases tile_cases W H M P q f kw kh K s out x0 y0 x1 y1 with ⟨h1, _⟩ | ⟨h1, h2, _⟩ | ⟨h1, h2, ⟨h3, _⟩ | ⟨h3, ⟨h4, _⟩ | ⟨h4, h5, _⟩ | ⟨h4, h5, _⟩⟩⟩
  · exact rtile_1 W H M P a cap q f kw kh K ka kl kc s out x0 y0 x1 y1 w hs hl hk ek hkl h1
  · exact rtile_2 W H M P a cap q f kw kh K ka kl kc s out x0 y0 x1 y1 w hs hl hk ek hkl h1 h2
  · exact rtile_3 W H M P a cap q f kw kh K ka kl kc s out x0 y0 x1 y1 w hs hl hk ek hkl h1 h2 _ rfl h3
  · exact rtile_4 W H M P a cap q f kw kh K ka kl kc s out x0 y0 x1 y1 w hs hl hk ek hkl h1 h2 h3 h4
  · exact rtile_5 W H M P a cap q f kw kh K ka kl kc s out x0 y0 x1 y1 w hs hl hk ek hkl h1 h2 h3 h4 h5
  · exact rtile_6 W H M P a cap q f kw kh K ka kl kc s out x0 y0 x1 y1 w hs hl hk ek hkl h1 h2 h3 h4 h5
end Go.Proofs.Ytibmoibhbgbfoaa
