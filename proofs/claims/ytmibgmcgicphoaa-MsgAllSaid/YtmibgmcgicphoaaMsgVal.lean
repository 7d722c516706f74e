/-
  MESSAGES AND REPLIES AS VALUES: their cells, '==' of them.
-/
import Derived.Test.YtmibgmcgicphoaaMsgMath
import Derived.Test.YtmibgmcgicphoaaStructEq
namespace Go.Proofs.Ytmibgmcgicphoaa.msg
open Go.RowKit Go.Proofs.Ytmibgmcgicphoaa.octets
set_option linter.unusedVariables false

def mv (m : M) : List Value := [.int .i64 m.kind, .int .i64 m.seq, .int .i64 m.role, .int .i64 m.to_, .int .i64 m.epoch, .int .i64 m.mode, .int .i64 m.cls, .bool m.now, .int .i64 m.x0, .int .i64 m.x1, .int .i64 m.x2, .int .i64 m.x3]
theorem mv_one (m : M) : ∀ v ∈ mv m, v.oneCell' = true := by
  intro v hv
  simp only [mv, List.mem_cons, List.not_mem_nil, or_false] at hv
  rcases hv with rfl | rfl | rfl | rfl | rfl | rfl | rfl | rfl | rfl | rfl | rfl | rfl <;> rfl
def xs4 (m : M) (i : Nat) : Int := [m.x0, m.x1, m.x2, m.x3].getD i 0
theorem run_msg (x y : M) (W : World) : (Op.equalIn 10000 24 (.agg (mv x).toArray) (.agg (mv y).toArray)).run Try.prog W = .ok (decide (x = y)) W := by
  have I := fun (i : Nat) (a b : Int) (ha : (mv x).toArray[i]? = some (.int .i64 a)) (hb : (mv y).toArray[i]? = some (.int .i64 b)) => EqStep.int (d := 9998) (xs := (mv x).toArray) (ys := (mv y).toArray) (W := W) (i := i) Try.underlying3 ha hb
  have h := run_equalIn_fields (d := 9999) (t := 24) (xs := (mv x).toArray) (ys := (mv y).toArray) (W := W)
    [(3, 0), (3, 1), (3, 2), (3, 3), (3, 4), (3, 5), (3, 6), (4, 7), (22, 8)]
    [x.kind == y.kind, x.seq == y.seq, x.role == y.role, x.to_ == y.to_, x.epoch == y.epoch, x.mode == y.mode, x.cls == y.cls, x.now == y.now, (List.range 4).all fun i => xs4 x i == xs4 y i]
    (by kernel_rfl) (by kernel_rfl) (by kernel_rfl)
    ⟨I 0 _ _ rfl rfl, I 1 _ _ rfl rfl, I 2 _ _ rfl rfl, I 3 _ _ rfl rfl, I 4 _ _ rfl rfl, I 5 _ _ rfl rfl, I 6 _ _ rfl rfl, EqStep.bool Try.underlying4 rfl rfl,
      EqStep.ints (k := .i64) Try.underlying22 Try.underlying3 (by kernel_rfl) (fun W => by kernel_rfl) (by kernel_rfl) (xs4 x) (xs4 y) (fun i hi => by match i, hi with | 0, _ => rfl | 1, _ => rfl | 2, _ => rfl | 3, _ => rfl) (fun i hi => by match i, hi with | 0, _ => rfl | 1, _ => rfl | 2, _ => rfl | 3, _ => rfl), trivial⟩
  rw [h]
  congr 1
  obtain ⟨k, s, r, t, e, mo, c, n, a, b, d, f⟩ := x
  obtain ⟨k', s', r', t', e', mo', c', n', a', b', d', f'⟩ := y
  rw [Bool.eq_iff_iff, decide_eq_true_eq]
  simp [xs4, List.range_succ]
theorem eql_msg (x y : M) (W : World) : (binOp .eql 24 (.agg (mv x).toArray) (.agg (mv y).toArray)).run Try.prog W = .ok (.bool (decide (x = y))) W := by rw [run_eql_struct, run_msg]; rfl
theorem neq_msg (x y : M) (W : World) : (binOp .neq 24 (.agg (mv x).toArray) (.agg (mv y).toArray)).run Try.prog W = .ok (.bool (!decide (x = y))) W := by rw [run_neq_struct, run_msg]; rfl

def rv (r : R) : List Value := [.int .i64 r.kind, .int .i64 r.seq, .int .i64 r.role, .int .i64 r.who, .int .i64 r.epoch, .int .i64 r.code] ++ vals r.nonce
theorem rv_len (r : R) (h : r.nonce.length = 8) : (rv r).length = 14 := by simp [rv, vals_len, h]
theorem rv_one (r : R) : ∀ v ∈ rv r, v.oneCell' = true := by
  intro v hv
  rw [rv, List.mem_append] at hv
  rcases hv with hv | hv
  · simp only [List.mem_cons, List.not_mem_nil, or_false] at hv
    rcases hv with rfl | rfl | rfl | rfl | rfl | rfl <;> rfl
  · exact vals_one _ v hv
def ns8 (r : R) (i : Nat) : Int := ((r.nonce.getD i 0).toNat : Int)
theorem rv_nonce (r : R) (h : r.nonce.length = 8) (i : Nat) (hi : i < 8) : (rv r).toArray[6 + i]? = some (.int .u8 (ns8 r i)) := by
  rw [List.getElem?_toArray, rv, List.getElem?_append_right (by simp)]
  show (vals r.nonce)[6 + i - 6]? = _
  rw [Nat.add_sub_cancel_left, vals_get (by omega)]
  simp [ns8, h, hi]
theorem run_reply (x y : R) (hx : x.nonce.length = 8) (hy : y.nonce.length = 8) (W : World) : (Op.equalIn 10000 28 (.agg (rv x).toArray) (.agg (rv y).toArray)).run Try.prog W = .ok (decide (x = y)) W := by
  have I := fun (i : Nat) (a b : Int) (ha : (rv x).toArray[i]? = some (.int .i64 a)) (hb : (rv y).toArray[i]? = some (.int .i64 b)) => EqStep.int (d := 9998) (xs := (rv x).toArray) (ys := (rv y).toArray) (W := W) (i := i) Try.underlying3 ha hb
  have h := run_equalIn_fields (d := 9999) (t := 28) (xs := (rv x).toArray) (ys := (rv y).toArray) (W := W)
    [(3, 0), (3, 1), (3, 2), (3, 3), (3, 4), (25, 5), (26, 6)]
    [x.kind == y.kind, x.seq == y.seq, x.role == y.role, x.who == y.who, x.epoch == y.epoch, x.code == y.code, (List.range 8).all fun i => ns8 x i == ns8 y i]
    (by kernel_rfl) (by kernel_rfl) (by kernel_rfl)
    ⟨I 0 _ _ rfl rfl, I 1 _ _ rfl rfl, I 2 _ _ rfl rfl, I 3 _ _ rfl rfl, I 4 _ _ rfl rfl, EqStep.int (k := .i64) Try.underlying25 rfl rfl,
      EqStep.ints (k := .u8) Try.underlying26 Try.underlying5 (by kernel_rfl) (fun W => by kernel_rfl) (by kernel_rfl) (ns8 x) (ns8 y) (rv_nonce x hx) (rv_nonce y hy), trivial⟩
  rw [h]
  congr 1
  obtain ⟨k, s, r, w, e, c, n⟩ := x
  obtain ⟨k', s', r', w', e', c', n'⟩ := y
  obtain ⟨a0, a1, a2, a3, a4, a5, a6, a7, rfl⟩ := eight hx
  obtain ⟨b0, b1, b2, b3, b4, b5, b6, b7, rfl⟩ := eight hy
  rw [Bool.eq_iff_iff, decide_eq_true_eq]
  have ni : ∀ a b : UInt8, ((a.toNat : Nat) : Int) = (b.toNat : Nat) ↔ a = b := fun a b => by rw [Int.ofNat_inj, UInt8.toNat_inj]
  simp [ns8, List.range_succ, ni]
theorem eql_reply (x y : R) (hx : x.nonce.length = 8) (hy : y.nonce.length = 8) (W : World) : (binOp .eql 28 (.agg (rv x).toArray) (.agg (rv y).toArray)).run Try.prog W = .ok (.bool (decide (x = y))) W := by rw [run_eql_struct, run_reply x y hx hy]; rfl
theorem neq_reply (x y : R) (hx : x.nonce.length = 8) (hy : y.nonce.length = 8) (W : World) : (binOp .neq 28 (.agg (rv x).toArray) (.agg (rv y).toArray)).run Try.prog W = .ok (.bool (!decide (x = y))) W := by rw [run_neq_struct, run_reply x y hx hy]; rfl
end Go.Proofs.Ytmibgmcgicphoaa.msg
