import PyProof.Rows.All
import Wide.All
import OpenK.AllK
import Wide.FinOn
import HandS.ForMost
import HandS.IsInst
import HandS.Property
import HandS.Star
import HandS.Rev
import HandS.TupMul
import HandS.Wide
import HandS.Style
import HandS.Walk
import HandS.Defaults
import HandS.ForExc
import HandS.ExcInit
import HandS.ExcIs
import HandS.ExcField
import HandS.RaiseMore
import HandS.ExcValue
import KE.GoesEnum
import KE.GoesMore
import HandS.TupAny
import KE.KRevSl
import PySem.Challenge.RW_farmisses_k40_sums_of_sizes
set_option Elab.async false
set_option linter.all false
/-! Sizes as lists of ints: plain mathematics. -/
namespace SZ
/-- without the zeros at the end -/
def trim : List Int → List Int
  | [] => []
  | x :: r => match trim r with
    | [] => if x = 0 then [] else [x]
    | y :: ys => x :: y :: ys
theorem trim_app0 : ∀ ys : List Int, trim (ys ++ [0]) = trim ys
  | [] => by simp [trim]
  | y :: ys => by
    show trim (y :: (ys ++ [0])) = trim (y :: ys)
    simp only [trim]
    rw [trim_app0 ys]
theorem trim_app : ∀ (ys : List Int) {z : Int}, z ≠ 0 → trim (ys ++ [z]) = ys ++ [z]
  | [], z, h => by simp [trim, h]
  | y :: ys, z, h => by
    show trim (y :: (ys ++ [z])) = y :: (ys ++ [z])
    simp only [trim]
    rw [trim_app ys h]
    cases e : ys ++ [z] with
    | nil => simp at e
    | cons a b => rfl
theorem trim_len : ∀ xs : List Int, (trim xs).length ≤ xs.length
  | [] => Nat.le_refl _
  | x :: r => by
    have ih := trim_len r
    simp only [trim]
    cases e : trim r with
    | nil => dsimp only; split <;> simp
    | cons y ys => rw [e] at ih; simp only [List.length_cons] at ih ⊢; omega
theorem trim_mem : ∀ {xs : List Int} {c : Int}, c ∈ trim xs → c ∈ xs
  | [], _, h => h
  | x :: r, c, h => by
    have ih := @trim_mem r c
    simp only [trim] at h
    cases e : trim r with
    | nil =>
      rw [e] at h
      dsimp only at h
      split at h
      · cases h
      · exact List.mem_cons.mpr (.inl (by simpa using h))
    | cons y ys =>
      rw [e] at h ih
      rcases List.mem_cons.mp h with h | h
      · exact List.mem_cons.mpr (.inl h)
      · exact List.mem_cons.mpr (.inr (ih h))
theorem trim_trim : ∀ xs : List Int, trim (trim xs) = trim xs
  | [] => rfl
  | x :: r => by
    have ih := trim_trim r
    simp only [trim]
    cases e : trim r with
    | nil => dsimp only; split <;> simp [trim, *]
    | cons y ys =>
      rw [e] at ih
      show trim (x :: (y :: ys)) = x :: (y :: ys)
      rw [trim, ih]
/-- the value at n -/
def ev : List Int → Int → Int
  | [], _ => 0
  | c :: r, n => ev r n * n + c
theorem ev_trim : ∀ (xs : List Int) (n : Int), ev (trim xs) n = ev xs n
  | [], _ => rfl
  | x :: r, n => by
    have ih := ev_trim r n
    simp only [trim]
    cases e : trim r with
    | nil =>
      rw [e] at ih
      have h0 : ev r n = 0 := ih.symm
      dsimp only
      split
      · rename_i hx
        simp [ev, h0, hx]
      · simp [ev, h0]
    | cons y ys =>
      rw [e] at ih
      show ev (y :: ys) n * n + x = ev r n * n + x
      rw [ih]
/-- item by item -/
def sumL : List Int → List Int → List Int
  | [], ys => ys
  | x :: xs, [] => x :: xs
  | x :: xs, y :: ys => (x + y) :: sumL xs ys
theorem sumL_nil (xs : List Int) : sumL xs [] = xs := by cases xs <;> rfl
theorem ev_sumL : ∀ (xs ys : List Int) (n : Int), ev (sumL xs ys) n = ev xs n + ev ys n
  | [], ys, n => by simp [sumL, ev]
  | x :: xs, [], n => by simp [sumL, ev]
  | x :: xs, y :: ys, n => by
    simp only [sumL, ev, ev_sumL xs ys n, Int.add_mul]
    omega
theorem len_sumL : ∀ xs ys : List Int, (sumL xs ys).length = max xs.length ys.length
  | [], ys => by simp [sumL]
  | x :: xs, [] => by simp [sumL]
  | x :: xs, y :: ys => by simp only [sumL, List.length_cons, len_sumL xs ys]; omega
theorem get_sumL : ∀ (xs ys : List Int) (i : Nat), (sumL xs ys).getD i 0 = xs.getD i 0 + ys.getD i 0
  | [], ys, i => by simp [sumL]
  | x :: xs, [], i => by simp [sumL]
  | x :: xs, y :: ys, 0 => by simp [sumL]
  | x :: xs, y :: ys, i + 1 => by simpa [sumL] using get_sumL xs ys i
def negL (xs : List Int) : List Int := xs.map fun x => -x
theorem ev_negL : ∀ (xs : List Int) (n : Int), ev (negL xs) n = - ev xs n
  | [], n => by simp [negL, ev]
  | x :: xs, n => by
    have ih := ev_negL xs n
    show ev (negL xs) n * n + -x = -(ev xs n * n + x)
    rw [ih, Int.neg_mul]
    omega
/-- c times ys, added to zs from place k on -/
def addAt (zs : List Int) (k : Nat) (d : Int) : List Int := zs.set k (zs.getD k 0 + d)
theorem len_addAt (zs : List Int) (k : Nat) (d : Int) : (addAt zs k d).length = zs.length := by simp [addAt]
def rowAt (zs : List Int) (k : Nat) (c : Int) (ys : List Int) : List Int := ys.zipIdx.foldl (fun z p => addAt z (k + p.2) (c * p.1)) zs
/-- powers of n -/
theorem ev_addAt : ∀ (zs : List Int) (k : Nat) (d n : Int), k < zs.length → ev (addAt zs k d) n = ev zs n + d * n ^ k
  | [], k, d, n, h => by simp at h
  | z :: zs, 0, d, n, h => by simp [addAt, ev]; omega
  | z :: zs, k + 1, d, n, h => by
    have ih := ev_addAt zs k d n (by simpa using h)
    have e : addAt (z :: zs) (k + 1) d = z :: addAt zs k d := by simp [addAt]
    rw [e]
    show ev (addAt zs k d) n * n + z = ev zs n * n + z + d * n ^ (k + 1)
    rw [ih, Int.add_mul, Int.pow_succ, Int.mul_assoc]
    omega
/-- the product, as the two loops make it: the first i of xs whole, the first j of ys with the next one -/
def mulL : List Int → List Int → List Int
  | [], ys => List.replicate ys.length 0
  | x :: xs, ys => sumL (ys.map (x * ·)) (0 :: mulL xs ys)
theorem ev_map_mul : ∀ (x : Int) (ys : List Int) (n : Int), ev (ys.map (x * ·)) n = x * ev ys n
  | x, [], n => by simp [ev]
  | x, y :: ys, n => by
    show ev (ys.map (x * ·)) n * n + x * y = x * (ev ys n * n + y)
    rw [ev_map_mul x ys n, Int.mul_add, Int.mul_assoc]
theorem ev_rep0 : ∀ (k : Nat) (n : Int), ev (List.replicate k 0) n = 0
  | 0, _ => rfl
  | k + 1, n => by rw [List.replicate_succ]; simp [ev, ev_rep0 k n]
theorem ev_mulL : ∀ (xs ys : List Int) (n : Int), ev (mulL xs ys) n = ev xs n * ev ys n
  | [], ys, n => by simp [mulL, ev_rep0, ev]
  | x :: xs, ys, n => by
    rw [mulL, ev_sumL, ev_map_mul]
    show x * ev ys n + (ev (mulL xs ys) n * n + 0) = (ev xs n * n + x) * ev ys n
    rw [ev_mulL xs ys n, Int.add_mul, Int.add_zero, Int.add_comm, Int.mul_assoc, Int.mul_assoc, Int.mul_comm (ev ys n) n]
theorem len_mulL : ∀ xs ys : List Int, (mulL xs ys).length = xs.length + ys.length
  | [], ys => by simp [mulL]
  | x :: xs, ys => by rw [mulL, len_sumL, List.length_map, List.length_cons, len_mulL xs ys, List.length_cons]; omega
/-- all below 2 ^ k in size -/
def Bd (k : Nat) (xs : List Int) : Prop := ∀ c ∈ xs, c.natAbs < 2 ^ k
theorem Bd.mono {j k : Nat} {xs : List Int} (h : Bd j xs) (hk : j ≤ k) : Bd k xs := fun c hc => Nat.lt_of_lt_of_le (h c hc) (Nat.pow_le_pow_right (by decide) hk)
theorem Bd.trim {k : Nat} {xs : List Int} (h : Bd k xs) : Bd k (trim xs) := fun c hc => h c (trim_mem hc)
theorem Bd.nil {k : Nat} : Bd k [] := fun _ h => nomatch h
theorem Bd.cons {k : Nat} {x : Int} {xs : List Int} (h : x.natAbs < 2 ^ k) (t : Bd k xs) : Bd k (x :: xs) := fun c hc => by
  rcases List.mem_cons.mp hc with e | e
  · rw [e]; exact h
  · exact t c e
theorem natAbs_add_lt {a b : Int} {k : Nat} (ha : a.natAbs < 2 ^ k) (hb : b.natAbs < 2 ^ k) : (a + b).natAbs < 2 ^ (k + 1) := by
  have : (2 : Nat) ^ (k + 1) = 2 ^ k + 2 ^ k := by rw [Nat.pow_succ]; omega
  omega
theorem natAbs_mul_lt {a b : Int} {j k : Nat} (ha : a.natAbs < 2 ^ j) (hb : b.natAbs < 2 ^ k) : (a * b).natAbs < 2 ^ (j + k) := by
  rw [Int.natAbs_mul, Nat.pow_add]
  exact Nat.mul_lt_mul'' ha hb
theorem two_pos (k : Nat) : 0 < 2 ^ k := Nat.pow_pos (by decide)
theorem Bd.sumL : ∀ {k : Nat} {xs ys : List Int}, Bd k xs → Bd k ys → Bd (k + 1) (sumL xs ys)
  | k, [], ys, _, h => h.mono (Nat.le_succ _)
  | k, x :: xs, [], h, _ => h.mono (Nat.le_succ _)
  | k, x :: xs, y :: ys, h, g => by
    refine Bd.cons (natAbs_add_lt (h x (List.mem_cons_self ..)) (g y (List.mem_cons_self ..))) (Bd.sumL (fun c hc => h c (List.mem_cons_of_mem _ hc)) fun c hc => g c (List.mem_cons_of_mem _ hc))
theorem Bd.negL {k : Nat} {xs : List Int} (h : Bd k xs) : Bd k (negL xs) := fun c hc => by
  obtain ⟨x, hx, e⟩ := List.mem_map.mp hc
  rw [← e, Int.natAbs_neg]
  exact h x hx
theorem Bd.mulL : ∀ {j k : Nat} {xs ys : List Int}, Bd j xs → Bd k ys → Bd (j + k + xs.length) (mulL xs ys)
  | j, k, [], ys, _, h => fun c hc => by
    have : c = 0 := (List.mem_replicate.mp hc).2
    rw [this]; exact two_pos _
  | j, k, x :: xs, ys, h, g => by
    have ih := Bd.mulL (fun c hc => h c (List.mem_cons_of_mem _ hc) : Bd j xs) g
    have e : j + k + (x :: xs).length = (j + k + xs.length) + 1 := by rw [List.length_cons]; omega
    rw [e]
    refine Bd.sumL (fun c hc => ?_) (Bd.cons (two_pos _) ih)
    obtain ⟨y, hy, e2⟩ := List.mem_map.mp hc
    rw [← e2]
    exact Nat.lt_of_lt_of_le (natAbs_mul_lt (h x (List.mem_cons_self ..)) (g y hy)) (Nat.pow_le_pow_right (by decide) (Nat.le_add_right _ _))
/-- how great a value is -/
theorem ev_lt : ∀ {b m : Nat} {xs : List Int} {n : Int}, Bd b xs → n.natAbs < 2 ^ m → (ev xs n).natAbs < 2 ^ (b + xs.length * (m + 1))
  | b, m, [], n, _, _ => two_pos _
  | b, m, x :: xs, n, h, hn => by
    have ih := ev_lt (fun c hc => h c (List.mem_cons_of_mem _ hc) : Bd b xs) hn
    have e : b + (x :: xs).length * (m + 1) = (b + xs.length * (m + 1) + m) + 1 := by rw [List.length_cons, Nat.succ_mul]; omega
    rw [e]
    show (ev xs n * n + x).natAbs < _
    refine natAbs_add_lt (natAbs_mul_lt ih hn) (Nat.lt_of_lt_of_le (h x (List.mem_cons_self ..)) (Nat.pow_le_pow_right (by decide) (by omega)))
/-- ys in place of n: as the loop makes it, from the last one on -/
def cmp : List Int → List Int → List Int
  | [], _ => []
  | c :: r, ys => trim (sumL (trim (mulL (cmp r ys) ys)) [c])
theorem ev_cmp : ∀ (xs ys : List Int) (n : Int), ev (cmp xs ys) n = ev xs (ev ys n)
  | [], _, _ => rfl
  | c :: r, ys, n => by
    rw [cmp, ev_trim, ev_sumL, ev_trim, ev_mulL, ev_cmp r ys n]
    simp [ev]
end SZ

namespace SZ
theorem ext_getD {xs ys : List Int} (hl : xs.length = ys.length) (h : ∀ k, xs.getD k 0 = ys.getD k 0) : xs = ys := by
  apply List.ext_getElem hl
  intro k h1 h2
  have := h k
  rw [List.getD_eq_getElem?_getD, List.getD_eq_getElem?_getD, List.getElem?_eq_getElem h1, List.getElem?_eq_getElem h2] at this
  simpa using this
theorem getD_set (zs : List Int) (j k : Nat) (d : Int) : (zs.set j d).getD k 0 = if k = j ∧ j < zs.length then d else zs.getD k 0 := by
  rw [List.getD_eq_getElem?_getD, List.getD_eq_getElem?_getD, List.getElem?_set]
  by_cases e : j = k
  · subst e
    by_cases hl : j < zs.length
    · simp [hl]
    · simp [hl]
  · simp [e, Ne.symm e]
theorem getD_rep (n k : Nat) : (List.replicate n (0 : Int)).getD k 0 = 0 := by
  rw [List.getD_eq_getElem?_getD, List.getElem?_replicate]
  split <;> rfl
theorem getD_of_ge {xs : List Int} {k : Nat} (h : xs.length ≤ k) : xs.getD k 0 = 0 := by
  rw [List.getD_eq_getElem?_getD, List.getElem?_eq_none h]
  rfl
/-- the k-th coefficient of the product -/
def cf : List Int → List Int → Nat → Int
  | [], _, _ => 0
  | x :: xs, ys, k => x * ys.getD k 0 + (match k with | 0 => 0 | k + 1 => cf xs ys k)
theorem get_map_mul (x : Int) (ys : List Int) (k : Nat) : (ys.map (x * ·)).getD k 0 = x * ys.getD k 0 := by
  rw [List.getD_eq_getElem?_getD, List.getD_eq_getElem?_getD, List.getElem?_map]
  cases ys[k]? <;> simp
theorem get_mulL : ∀ (xs ys : List Int) (k : Nat), (mulL xs ys).getD k 0 = cf xs ys k
  | [], ys, k => by rw [mulL, getD_rep]; rfl
  | x :: xs, ys, 0 => by rw [mulL, get_sumL, get_map_mul]; simp [cf]
  | x :: xs, ys, k + 1 => by
    rw [mulL, get_sumL, get_map_mul]
    show x * ys.getD (k + 1) 0 + (mulL xs ys).getD k 0 = _
    rw [get_mulL xs ys k]
    rfl
theorem cf_app : ∀ (xs : List Int) (x : Int) (ys : List Int) (k : Nat), cf (xs ++ [x]) ys k = cf xs ys k + if xs.length ≤ k then x * ys.getD (k - xs.length) 0 else 0
  | [], x, ys, k => by
    show cf [x] ys k = 0 + if 0 ≤ k then x * ys.getD (k - 0) 0 else 0
    cases k <;> simp [cf]
  | z :: xs, x, ys, 0 => by simp [cf]
  | z :: xs, x, ys, k + 1 => by
    show z * ys.getD (k + 1) 0 + cf (xs ++ [x]) ys k = z * ys.getD (k + 1) 0 + cf xs ys k + if xs.length + 1 ≤ k + 1 then x * ys.getD (k + 1 - (xs.length + 1)) 0 else 0
    rw [cf_app xs x ys k]
    have e : k + 1 - (xs.length + 1) = k - xs.length := by omega
    rw [e, Int.add_assoc]
    congr 2
    by_cases h : xs.length ≤ k
    · rw [if_pos h, if_pos (by omega)]
    · rw [if_neg h, if_neg (by omega)]
theorem cf_take {xs ys : List Int} {i : Nat} {x : Int} (h : xs[i]? = some x) (k : Nat) : cf (xs.take (i + 1)) ys k = cf (xs.take i) ys k + if i ≤ k then x * ys.getD (k - i) 0 else 0 := by
  have hi : i < xs.length := (List.getElem?_eq_some_iff.mp h).1
  have e : xs.take (i + 1) = xs.take i ++ [x] := by rw [List.take_add_one, h]; rfl
  rw [e, cf_app, List.length_take, Nat.min_eq_left (Nat.le_of_lt hi)]
/-- the loops' lists, by their coefficients -/
structure Is (zs : List Int) (n : Nat) (F : Nat → Int) : Prop where
  len : zs.length = n
  get : ∀ k, zs.getD k 0 = F k
theorem Is.set {zs : List Int} {n : Nat} {F : Nat → Int} (h : Is zs n F) {j : Nat} (hj : j < n) {d : Int} {G : Nat → Int} (hg : ∀ k, G k = if k = j then d else F k) : Is (zs.set j d) n G :=
  ⟨by rw [List.length_set, h.len], fun k => by
    rw [getD_set, hg, h.get, h.len]
    by_cases e : k = j
    · rw [if_pos ⟨e, hj⟩, if_pos e]
    · rw [if_neg (fun q => e q.1), if_neg e]⟩
theorem Is.eq {zs ys : List Int} {n : Nat} {F : Nat → Int} (h : Is zs n F) (hl : ys.length = n) (hy : ∀ k, ys.getD k 0 = F k) : zs = ys := ext_getD (h.len.trans hl.symm) fun k => (h.get k).trans (hy k).symm
theorem getD_some {xs : List Int} {i : Nat} {x : Int} (h : xs[i]? = some x) : xs.getD i 0 = x := by rw [List.getD_eq_getElem?_getD, h]; rfl
end SZ

set_option maxRecDepth 100000
set_option maxHeartbeats 4000000
/-! Rules of my own over the hand layer. -/
namespace VR
open PySem PySem.Spec PyProof.Rows L2

/-! ### an own binary operator whose right side is of the same class, or of a built-in type -/
section
open PySem.W
variable {prog : Program} {w : World} {A : Around} {E : Value → Shared → Prop} {s : Shared} {K : Frag} {x C L f y : Addr} {h₀ : Heap} {m : Str → Option Value} {ox : Obj} {od : Option Obj} {nm : String}
theorem binSame {op : Operator} {Q : Value → Shared → Prop} (X : K.In s.heap) (I : InstAt s.heap x ox C od) (hb : Looks (model prog w) s.heap (typeOf (.ref y)) (.ref C)) (hc : selfFirst K C = true)
    (hs : findIn K (.ref C) (PySem.dunder op.info.2) = some (some (.ref f))) (hf : isFn K (.ref f) = true)
    (h : wpAny (model prog w) A (call (.ref f) [.ref x, .ref y]) (PySem.W.CmpBack Q) E s) : wpAny (model prog w) A (binaryOp op (.ref x) (.ref y)) Q E s := by
  obtain ⟨cd, rest, hcd, hm⟩ := ksp_first hc
  rcases hi : op.info with ⟨sym, nm'⟩
  rw [hi] at hs
  dsimp only at hs
  have one := ksp_try X I hs hf h
  obtain ⟨hh, g, d, tt, os⟩ := s
  have L1 : Looks (model prog w) hh (typeOf (.ref x)) (.ref C) := I.type
  have L2 : Looks (model prog w) hh (typeOf (.ref y)) (.ref C) := hb
  have L3 : Looks (model prog w) hh (fillsNumberSlot (.ref C) nm') true := fills_K X hcd hm hs
  have he : (Value.ref C == Value.ref C) = true := by simp
  simp only [binaryOp, hi]
  refine wpAny_holding (wpAny_bind ?_)
  unfold binaryOp1
  refine wpAny_bind (L1.at (wpAny_bind (L2.at (wpAny_bind (L3.at ?_)))))
  simp only [he, if_true]
  ksp_lk
  refine wpAny_mono one (fun r s' hr' => ?_) fun _ _ e => e
  obtain ⟨v, rfl, hq⟩ := hr'
  ksp_lk
  exact hq
end

/-- what the class at C must say that its own operator f is asked -/
structure BinOwn (K : PySem.W.Frag) (C : Addr) (nm : String) (f : Addr) : Prop where
  sf : PySem.W.selfFirst K C = true
  hs : PySem.W.findIn K (.ref C) (PySem.dunder nm) = some (some (.ref f))
  hf : PySem.W.isFn K (.ref f) = true
  hr : PySem.W.findIn K (.ref C) (dunderR nm) = some none
  ti : ∃ fo ro, PySem.W.findIn K (.type "int") (PySem.dunder nm) = some fo ∧ PySem.W.findIn K (.type "int") (dunderR nm) = some ro
  su : PySem.W.subIn K (.type "int") (.ref C) = some false

theorem relV_back {v : V} {u : Value} (r : RelV v u) {Q : Value → Shared → Prop} {s : Shared} (q : Q u s) : PySem.W.CmpBack Q u s := by
  cases v with
  | non => cases (show u = Value.none from r); exact q
  | bl b => cases (show u = Value.bool b from r); exact q
  | int i => obtain ⟨t, e⟩ := (show ∃ t, u = Value.int i t from r); cases e; exact q
  | str i => obtain ⟨t, e⟩ := (show ∃ t, u = Value.str i t from r); cases e; exact q
  | byt i => obtain ⟨t, e⟩ := (show ∃ t, u = Value.bytes i t from r); cases e; exact q
  | flt i => obtain ⟨t, e⟩ := (show ∃ t, u = Value.float i t from r); cases e; exact q
  | ref a => cases (show u = Value.ref a from r); exact q
  | ty n => cases (show u = Value.type n from r); exact q

/-- one + other -/
def rOwn (C : Addr) (sp : Sp) (E : XK) : R2 := fun x y H Q => ∃ a dx fs, x = .ref a ∧ H a = some (.ins C dx fs) ∧ ((∃ b dy gs, y = .ref b ∧ H b = some (.ins C dy gs)) ∨ ∃ i, y = .int i) ∧ sp [x, y] H Q E
section
variable {X : Cx} {CX : CXT} {k : Nat} {C f : Addr} {fd : FuncData} {ps : List Str} {sp : Sp} {E : XK} {op : Operator}
theorem op_own (B : BinOwn X.K C op.info.2 f) (F : FnOk X.prog X.w X.K X.mg X.base CX k f fd ps sp) (hr : Room k X.A) (hb : Binds X.K fd ps []) (hx : Passes CX X E) : OpR X (binaryOp op) (rOwn C sp E) := by
  intro pins s σ H x y v u Q I rx ry h
  obtain ⟨a, dx, fs, rfl, ha, hy, q⟩ := h
  cases rx
  obtain ⟨mA, O, _⟩ := ins_get I.hok ha
  obtain ⟨od, J, _⟩ := O.look
  have call : ∀ {u : Value}, RelV y u → wpAny (model X.prog X.w) X.A (call (.ref f) [.ref a, u]) (PySem.W.CmpBack (EP X pins σ Q)) X.xe s := fun {u} ry =>
    wpAny_mono (run_fn (us := [.ref a, u]) (vs := [.ref a, y]) (dvs := []) F hr hb .nil hx I (.cons rfl (.cons ry .nil)) q) (fun r s' hq => by
      obtain ⟨z, H', I', rz, hz⟩ := hq
      exact relV_back rz ⟨z, H', I', rz, hz⟩) fun _ _ z => z
  rcases hy with ⟨b, dy, gs, rfl, hb'⟩ | ⟨i, rfl⟩
  · cases ry
    obtain ⟨mB, O', _⟩ := ins_get I.hok hb'
    obtain ⟨od', J', _⟩ := O'.look
    exact binSame I.kIn J J'.type B.sf B.hs B.hf (call rfl)
  · obtain ⟨t, rfl⟩ := (show ∃ t, u = Value.int i t from ry)
    obtain ⟨m, hF⟩ := I.fr
    obtain ⟨fo, ro, h1, h2⟩ := B.ti
    exact PySem.W.ksp_binT hF I.ok.mod.kin J rfl B.sf B.hs B.hf B.hr (.inl rfl) h1 h2 B.su (call ⟨t, rfl⟩)
/-- -one -/
def rOwnU (C : Addr) (sp : Sp) (E : XK) : V → Hp → VK → Prop := fun x H Q => ∃ a dx fs, x = .ref a ∧ H a = some (.ins C dx fs) ∧ sp [x] H Q E
theorem un_own (hs : PySem.W.findIn X.K (.ref C) "__neg__" = some (some (.ref f))) (hf : PySem.W.isFn X.K (.ref f) = true) (F : FnOk X.prog X.w X.K X.mg X.base CX k f fd ps sp) (hr : Room k X.A) (hb : Binds X.K fd ps []) (hx : Passes CX X E) :
    UnR X (unaryOp .USub) (rOwnU C sp E) := by
  intro pins s σ H x v Q I rx h
  obtain ⟨a, dx, fs, rfl, ha, q⟩ := h
  cases rx
  obtain ⟨mA, O, _⟩ := ins_get I.hok ha
  obtain ⟨od, J, _⟩ := O.look
  obtain ⟨m, hF⟩ := I.fr
  exact PySem.W.ksp_neg hF I.ok.mod.kin J hs hf (run_fn (us := [.ref a]) (vs := [.ref a]) (dvs := []) F hr hb .nil hx I (.cons rfl .nil) q)
end

/-! ### enumerate(tuple) -/
def IteT (K : PySem.W.Frag) (a : Addr) : It :=
  ⟨fun i H => ∃ (xs : List V) (x : V), SqT K H a xs ∧ xs[i]? = some x, fun i H v H' => ∃ T x, v = .ref T ∧ H T = none ∧ H' = upd H T (.tup [.int (i : Nat), x]) ∧ ∀ xs, SqT K H a xs → xs[i]? = some x, fun i H => ∃ xs : List V, SqT K H a xs ∧ xs.length = i⟩
theorem isTup_isTuple {h : Heap} {a : Addr} {its : Array Value} (x : IsTup h a its) : h.IsTuple a its := x
theorem turn_enumT {P : Program} {w : World} {K : PySem.W.Frag} {elts : List Expr} {kk : Nat} {tpos : Pos} (a e it : Addr) (hai : a ≠ it) (hae : a ≠ e) :
    Turn P w K (.Tuple elts kk tpos) (IteT K a) [e, it] e (fun i h => (∃ old, IsEnum h e it ((i : Nat) : Int) old) ∧ h.IsTupleIter it a i ∧ e ≠ it) where
  mem := by simp
  obj := fun i h st b hb => by
    obtain ⟨⟨old, he⟩, ⟨o, ho, hc, hd⟩, _⟩ := st
    have e' : b = e ∨ b = it := by simpa using hb
    rcases e' with z | z
    · rw [z]; exact ⟨_, he, fun v q => nomatch q⟩
    · rw [z]; exact ⟨o, ho, fun v q => by rw [hd] at q; cases q⟩
  keep := fun i h h' st k => let ⟨⟨old, he⟩, hi, hne⟩ := st; ⟨⟨old, k e (by simp) _ he⟩, hi.at fun o q => k it (by simp) o q, hne⟩
  item := by
    intro X hP hw hK hc i pins s σ H E I hf st hg
    subst hP hw hK
    obtain ⟨⟨old, he⟩, hit, hne⟩ := st
    obtain ⟨xs, x, hq, hx⟩ := hg
    obtain ⟨its, rv, p, hz⟩ := I.tuple hq
    obtain ⟨u, hu, ru⟩ := rv.get hx
    have hel : e < s.heap.objs.size := Heap.lt_size he
    have hil : it < s.heap.objs.size := by obtain ⟨_, q, _⟩ := hit; exact Heap.lt_size q
    have hlt : i < its.toArray.size := by
      have := (List.getElem?_eq_some_iff.mp hu).1
      simpa using this
    have D := Draws.tuple (prog := X.prog) (w := X.w) (A := X.A.in1) (show X.A.in1.handled = none from I.ok.hd hc) it a hai its.toArray
    refine wpAny_pyNext_enum_itemC (i := i) D he ⟨hit, isTup_isTuple p⟩ hlt hne (by simp [hne, Ne.symm hae]) fun y h' tk hy ho hst' hT hsz hk => ?_
    obtain ⟨hit', hit2⟩ := hst'
    have ey : y = u := by
      have q : its.toArray[i]? = some u := by simpa using hu
      have q2 : its.toArray[i]? = some y := hy
      rw [q] at q2
      exact (Option.some.inj q2).symm
    subst ey
    refine ⟨_, rfl, wpAny_letOwnedTupleGo_enum (s := { s with heap := h', toks := tk + 1 }) ho fun h'' he' sb => ?_⟩
    have hT2 : h''.get? s.heap.objs.size = some { cls := .type "tuple", data := .seq #[.int i tk, y] } := (sb.2 _ (Nat.ne_of_gt hel)).trans hT
    have new : ObjOk X.prog X.w (upd H s.heap.objs.size (.tup [.int (i : Nat), x])) h'' s.heap.objs.size (.tup [.int (i : Nat), x]) :=
      ⟨by show 2 ≤ sizeLine; decide, [.int i tk, y], .cons ⟨_, rfl⟩ (.cons ru .nil), ⟨_, hT2, rfl, _, rfl⟩⟩
    have I1 : Inv X pins σ (upd H s.heap.objs.size (.tup [.int (i : Nat), x])) { s with heap := h'', toks := tk + 1 } :=
      I.turnedNew (ch := [e, it]) (fun b ob hb q => (sb.2 b (fun z => hb (by simp [z]))).trans (hk b ob (fun z => hb (by simp [z])) (fun z => hb (by simp [z])) q)) hf (Nat.le_refl _) new
    refine ⟨.ref s.heap.objs.size, _, I1, rfl, ⟨_, x, rfl, I.hok.fresh (Nat.le_refl _), rfl, fun ys hy => by rw [I.tuple_inj hy hq]; exact hx⟩, ⟨⟨y, ?_⟩, hit'.at fun o q => (sb.2 it (Ne.symm hne)).trans q, hne⟩, fun b hb => ?_⟩
    · have e1 : ((i + 1 : Nat) : Int) = (i : Int) + 1 := by omega
      rw [e1]; exact he'
    · have hb' : b < s.heap.objs.size := by
        have e' : b = e ∨ b = it := by simpa using hb
        rcases e' with z | z
        · rw [z]; exact hel
        · rw [z]; exact hil
      rw [upd_ne (Nat.ne_of_lt hb')]
      exact (hf b hb).1
  done := by
    intro X hP hw hK hc i pins s σ H E I hf st hg
    subst hP hw hK
    obtain ⟨⟨old, he⟩, hit, hne⟩ := st
    obtain ⟨xs, hq, hx⟩ := hg
    obtain ⟨its, rv, p, hz⟩ := I.tuple hq
    obtain ⟨f0, f1, f2, f3, f4, f5⟩ := hf it (by simp)
    have hl := rv.length
    have D := Draws.tuple (prog := X.prog) (w := X.w) (A := X.A.in1) (show X.A.in1.handled = none from I.ok.hd hc) it a hai its.toArray
    have hz : its.toArray.size = i := by rw [List.size_toArray]; omega
    subst hz
    exact wpAny_pyNext_enum_endD D he ⟨hit, isTup_isTuple p⟩ fun h' eb => ⟨rfl, I.turned (t' := s.toks) (fun b o hb q => eb b o hb q) f0 f1 f3 f4 f5⟩
  self := fun A i s Q E st h => let ⟨⟨_, he⟩, _⟩ := st; wpAny_pyIter_enum he h
theorem meets_enumB1 {v : Value} {o : Obj} {H : Heap → Prop} (B : Begins v o H) :
    Meets (Builtin.«enumerate.__new__» ⟨[.type "enumerate", v], []⟩) (fun _ R s => H s.heap ∧
      R (.ok (.ret (.ref (s.heap.push o).objs.size))) { s with heap := (s.heap.push o).push { cls := .type "enumerate", data := .fields #[.none, .bool false, .ref s.heap.objs.size, rawInt 0, .none, .none] } }) :=
  .of_wp fun prog w A R s h => by
    obtain ⟨hp, g, d, tk, os⟩ := s; obtain ⟨h1, h⟩ := h
    have hsub := sub_enumerate
    have q1 : ∀ {A' : Around} {E : Value → Shared → Prop} {Q : Value → Shared → Prop}, Q (.ref hp.objs.size) ⟨hp.push o, g, d, tk, os⟩ → wpAny (model prog w) A' (pyIter v) Q E ⟨hp, g, d, tk, os⟩ :=
      fun q => B.iter prog w _ _ ⟨hp, g, d, tk, os⟩ _ h1 q
    wp_walk using q1
    refine wpAny_stack_any fun st => wpAny_pure ?_
    split
    · rename_i c _ _ _ _ _
      cases (c == Value.type "enumerate")
      · wp_walk using q1
        exact ⟨_, rfl, h⟩
      · wp_walk using q1
        exact ⟨_, rfl, h⟩
    · wp_walk using q1
      exact ⟨_, rfl, h⟩
theorem call_enumT {prog : Program} {w : World} {A : Around} {E : Value → Shared → Prop} {s : Shared} {l : Addr} {items : Array Value} {Q : Value → Shared → Prop} (hL : s.heap.IsTuple l items)
    (h : ∀ h', IsEnum h' (s.heap.objs.size + 1) s.heap.objs.size 0 .none → h'.IsTupleIter s.heap.objs.size l 0 → h'.objs.size = s.heap.objs.size + 2 →
      (∀ b o, s.heap.get? b = some o → h'.get? b = some o) → Q (.ref (s.heap.objs.size + 1)) { s with heap := h' }) :
    wpAny (model prog w) A (call (.type "enumerate") [.ref l]) Q E s := by
  refine callType_new F.called_enumerate (by decide) (F.typeCall_enumerate_1 _) (F.newCall_enumerate_1 _) (fun obj => F.args_object_init_2 obj _) F.entry_enumerate_new
    (meets_enumB1 (begins_tuple l items)) ⟨hL, ?_⟩
  have hz : (s.heap.push { cls := .type "tuple_iterator", data := .fields #[.ref l, .int 0 0] }).objs.size = s.heap.objs.size + 1 := Heap.size_push ..
  show _ ∧ _
  rw [hz]
  have he : IsEnum ((s.heap.push { cls := .type "tuple_iterator", data := .fields #[.ref l, .int 0 0] }).push
      { cls := .type "enumerate", data := .fields #[.none, .bool false, .ref s.heap.objs.size, rawInt 0, .none, .none] }) (s.heap.objs.size + 1) s.heap.objs.size 0 .none := by
    have := Heap.get?_push_size (s.heap.push { cls := .type "tuple_iterator", data := .fields #[.ref l, .int 0 0] })
      (o := { cls := .type "enumerate", data := .fields #[.none, .bool false, .ref s.heap.objs.size, rawInt 0, .none, .none] }) rfl
    rw [hz] at this; exact this
  refine ⟨⟨_, he, rfl⟩, h _ he ⟨_, Heap.get?_push_of_some _ (Heap.get?_push_size _ rfl), rfl, rfl⟩ (by rw [Heap.size_push, hz]) fun b o x => Heap.get?_push_of_some _ (Heap.get?_push_of_some _ x)⟩
def iEnumT (K : PySem.W.Frag) (ta : TA) : TI := fun σ H R => ta σ H fun vs H1 => ∃ a xs, vs = [.ref a] ∧ SqT K H1 a xs ∧ R (IteT K a) H1
theorem pi_enumT {X : Cx} {e : Expr} {ta : TA} {p pos tpos : Pos} {elts : List Expr} {kk : Nat} (hg : Gl X "enumerate") (hm : X.mg "enumerate" = none) (ha : PA X [e] ta) (hs : starEach [e] X.env = [(false, eval e X.env)] := by rfl) :
    PI X (.Tuple elts kk tpos) (.Call (.Name "enumerate" p) [e] [] pos) (iEnumT X.K ta) := by
  refine ⟨fun pins s σ H R I h => ?_⟩
  refine Call_ (ld_blt I hg hm boot_enumerate (PyProof.Rows.callWith_type1 (thn (ha.run pos pins s σ H _ I h) fun us s1 ⟨vs, H1, I1, r1, q1⟩ => ?_) hs rfl))
  obtain ⟨a, xs, ex, hq, q⟩ := q1
  subst ex
  cases r1 with
  | cons r rr =>
    cases rr
    cases r
    obtain ⟨its, rv, p', hz⟩ := I1.tuple hq
    have hal : a < s1.heap.objs.size := by obtain ⟨o, ho, _⟩ := id p'; exact Heap.lt_size ho
    refine call_enumT (isTup_isTuple p') fun h' he hit hsz hk => wpAny_pyIter_enum he ?_
    have I2 : Inv X pins σ H1 { s1 with heap := h' } := I1.kept (t' := s1.toks) hk
    refine ⟨s1.heap.objs.size + 1, [s1.heap.objs.size + 1, s1.heap.objs.size], _, _, H1, rfl, I2, turn_enumT a (s1.heap.objs.size + 1) s1.heap.objs.size (Nat.ne_of_lt hal) (Nat.ne_of_lt (Nat.lt_succ_of_lt hal)), ⟨⟨.none, he⟩, hit, Nat.succ_ne_self _⟩, fun b hb => ?_, q⟩
    have e' : b = s1.heap.objs.size + 1 ∨ b = s1.heap.objs.size := by simpa using hb
    have hle : s1.heap.objs.size ≤ b := by
      rcases e' with z | z
      · rw [z]; exact Nat.le_add_right _ _
      · rw [z]; exact Nat.le_refl _
    exact I1.fpOk hle (I1.hok.fresh hle)
theorem walk_enumT {K : PySem.W.Frag} {a : Addr} {xs : List V} : Walk (IteT K a) xs.length (fun H => SqT K H a xs) (YPair (fun i => some (.int (i : Nat))) (fun i => xs[i]?)) := by
  refine ⟨fun i _ hi q => ⟨xs, xs[i], q, by simp [hi]⟩, fun _ q => ⟨xs, q, rfl⟩, fun i H v H' _ q y => ?_⟩
  obtain ⟨T, x, h1, h2, h3, h4⟩ := y
  exact ⟨T, .int (i : Nat), x, h1, h2, h3, rfl, h4 xs q⟩
end VR

namespace VR
open PySem PySem.Spec PyProof.Rows L2
section
open PySem.W
variable {prog : Program} {w : World} {A : Around} {E : Value → Shared → Prop} {s : Shared} {K : Frag} {x C L f y : Addr} {h₀ : Heap} {m : Str → Option Value} {ox : Obj} {od : Option Obj} {nm : String} {b tb : Value}
/-- x != b, the class at C with an own __eq__ and no __ne__ -/
theorem ne_K {Q : Value → Shared → Prop} (hu : A.units + 1 < cLine) (X : K.In s.heap) (I : InstAt s.heap x ox C od) (hb : Looks (model prog w) s.heap (typeOf b) tb) (hn : notFirst K C tb = true)
    (hs : findIn K (.ref C) "__ne__" = some (some (.builtin "object.__ne__"))) (he : findIn K (.ref C) "__eq__" = some (some (.ref f))) (hf : isFn K (.ref f) = true) (hm : mroIn K C (.type "object") = some true)
    (h : wpAny (model prog w) A.in1 (call (.ref f) [.ref x, b]) (fun v s' => ∃ c, v = .bool c ∧ Q (.bool (!c)) s') E s) : wpAny (model prog w) A (richCompare .NotEq (.ref x) b) Q E s := by
  have sub : Looks (model prog w) s.heap (isInstance (.ref x) (.type "object")) true := I.type.andThen (looks_mroIn X hm)
  have one : wpAny (model prog w) A (tryCompare (.ref x) "__ne__" b) (fun r s' => ∃ v, r = some v ∧ Q v s') E s := by
    unfold tryCompare
    have inner : wpAny (model prog w) A (call (.builtin "object.__ne__") [.ref x, b]) (fun v s' => ∃ c, v = .bool (!c) ∧ Q (.bool (!c)) s') E s := by
      refine wpAny_call (codeAny_call_builtin PySem.F.slot_tuple_iterator_ne.plain PySem.F.cmpEntry_ne (check_slot PySem.F.cmpKind_ne PySem.F.cmpSplit_ne sub (PySem.F.cmpArgs_ne _ _) ?_))
      unfold Builtin.«object.__ne__»
      refine wpAny_bind (wpAny_of_eq (a := ((Value.ref x : Value), [b])) (by first | rfl | (simp only [slotArgs]; rfl)) ?_)
      dsimp only
      refine wpAny_bind (wpAny_cRoomFor hu ?_)
      refine wpAny_bind (ifBound_K X I he hf (wpAny_mono h (fun v s' hv => ?_) fun _ _ e => e))
      obtain ⟨c, rfl, hq⟩ := hv
      dsimp only
      refine wpAny_bind (wpAny_truthy_bool ?_)
      exact wpAny_pure ⟨c, rfl, hq⟩
    have two : wpAny (model prog w) A (callSpecialIfBound? (.ref x) "__ne__" [b]) (fun r s' => ∃ c, r = some (.bool (!c)) ∧ Q (.bool (!c)) s') E s := by
      simp only [callSpecialIfBound?, bindSpecialIfBound?]
      refine wpAny_holding (wpAny_bind (wpAny_bind (wpAny_bind (I.type.here ((looks_findIn X hs).here ?_)))))
      simp only [PySem.F.slot_tuple_iterator_ne.bind]
      refine wpAny_bind (wpAny_askSetting (wpAny_ite ?_))
      have fin : wpAny (model prog w) A (call (.builtin "object.__ne__") ([.ref x] ++ [b]) >>= fun v => pure (some v)) (fun r s' => ∃ c, r = some (.bool (!c)) ∧ Q (.bool (!c)) s') E s :=
        wpAny_bind (wpAny_mono inner (fun v s' ⟨c, e, q⟩ => wpAny_pure ⟨c, by rw [e], q⟩) fun _ _ h' => h')
      split
      · exact wpAny_bind (wpAny_pure (wpAny_pure fin))
      · exact wpAny_tryCatch (wpAny_bind (wpAny_pure (wpAny_pure fin)))
    refine wpAny_bind (wpAny_mono two (fun v s' hv => ?_) fun _ _ e => e)
    obtain ⟨c, rfl, hq⟩ := hv
    exact wpAny_pure ⟨_, rfl, hq⟩
  unfold richCompare
  simp only [oneThing_ref]
  refine wpAny_holding (wpAny_bind (wpAny_cRoomFor (Nat.lt_of_succ_lt hu) ?_))
  refine wpAny_bind (I.type.here (wpAny_bind (hb.here ?_)))
  split
  · rename_i q
    have e : subIn K tb (.ref C) = some false := by
      rcases Bool.or_eq_true_iff.mp hn with e | e
      · rw [beq_iff_eq.mp e] at q; simp at q
      · exact beq_iff_eq.mp e
    refine wpAny_bind ((looks_subIn X e).here ?_)
    simp only [Bool.false_eq_true, if_false]
    refine wpAny_bind (wpAny_mono one (fun r s' z => ?_) fun _ _ e => e)
    obtain ⟨v, rfl, hq⟩ := z
    exact wpAny_pure hq
  · refine wpAny_bind (wpAny_pure ?_)
    simp only [Bool.false_eq_true, if_false]
    refine wpAny_bind (wpAny_mono one (fun r s' z => ?_) fun _ _ e => e)
    obtain ⟨v, rfl, hq⟩ := z
    exact wpAny_pure hq
end

/-- what the class at C must say for type(x) and isinstance -/
structure InsKit (K : PySem.W.Frag) (C : Addr) : Prop where
  cl : Cls K C
  ha : PySem.W.findIn K (.ref C) "__class__" = some (some (.builtin "object.__class__"))
  hn : PySem.W.specialIn K (.builtin "object.__class__") "__get__" = some (some (.builtin "getset_descriptor.__get__"))
  ht : PySem.W.takesIn K (.builtin "object.__class__") = some true
  hm : PySem.W.mroIn K C (.type "object") = some true
theorem InsKit.ty {K : PySem.W.Frag} {C a dx : Addr} {H : Hp} {fs : List (Str × V)} (k : InsKit K C) (e : H a = some (.ins C dx fs)) : TyX K H (.ref a) (.ref C) := .base (.ins e k.cl k.ha k.hn k.ht k.hm)
theorem TyX.tupT {K : PySem.W.Frag} {H : Hp} {a : Addr} {xs : List V} (h : SqT K H a xs) : TyX K H (.ref a) (.type "tuple") := by
  rcases h with (h | ⟨o, h⟩) | h
  · exact .base (.tup h)
  · exact .fTuple h
  · obtain ⟨o, its, n, h1, h2, _⟩ := h
    exact .kTuple h1 h2
/-- one == other, one != other by an own __eq__ that tells a bool -/
def rOwnE (K : PySem.W.Frag) (C : Addr) (sp : Sp) (E : XK) (neg : Bool) : R2 := fun x y H Q => ∃ a dx fs t, x = .ref a ∧ H a = some (.ins C dx fs) ∧ TyX K H y t ∧ PySem.W.notFirst K C t = true ∧ sp [x, y] H (fun v H' => ∃ c, v = .bl c ∧ Q (.bl (if neg then !c else c)) H') E
section
variable {X : Cx} {CX : CXT} {k : Nat} {C f : Addr} {fd : FuncData} {ps : List Str} {sp : Sp} {E : XK}
theorem op_ownEq (he : PySem.W.findIn X.K (.ref C) "__eq__" = some (some (.ref f))) (hf : PySem.W.isFn X.K (.ref f) = true) (F : FnOk X.prog X.w X.K X.mg X.base CX k f fd ps sp) (hr : Room k X.A) (hb : Binds X.K fd ps []) (hx : Passes CX X E) :
    OpR X (compareOp .Eq) (rOwnE X.K C sp E false) := by
  intro pins s σ H x y v u Q I rx ry h
  obtain ⟨a, dx, fs, t, rfl, ha, ty, hn, q⟩ := h
  cases rx
  obtain ⟨mA, O, _⟩ := ins_get I.hok ha
  obtain ⟨od, J, _⟩ := O.look
  obtain ⟨m, hF⟩ := I.fr
  obtain ⟨P, Z, hp, _⟩ := kit_of I ry ty
  show wpAny (model X.prog X.w) X.A (richCompare .Eq (.ref a) u) (EP X pins σ Q) X.xe s
  refine PySem.W.cmp_K (op := .Eq) hr.units0 hF I.ok.mod.kin J (Z.ty _ _ I.kIn hp) hn he hf ?_
  refine wpAny_mono (run_fn (us := [.ref a, u]) (vs := [.ref a, y]) (dvs := []) F hr hb .nil hx I (.cons rfl (.cons ry .nil)) q) (fun r s' hq => ?_) fun _ _ z => z
  obtain ⟨z, H', I', rz, c, ez, hz⟩ := hq
  subst ez
  cases rz
  exact ⟨.bl c, H', I', rfl, hz⟩
theorem op_ownNe (h0 : PySem.W.findIn X.K (.ref C) "__ne__" = some (some (.builtin "object.__ne__"))) (hmo : PySem.W.mroIn X.K C (.type "object") = some true)
    (he : PySem.W.findIn X.K (.ref C) "__eq__" = some (some (.ref f))) (hf : PySem.W.isFn X.K (.ref f) = true) (F : FnOk X.prog X.w X.K X.mg X.base CX k f fd ps sp) (hr : Room (k + 1) X.A) (hb : Binds X.K fd ps []) (hx : Passes CX X E) :
    OpR X (compareOp .NotEq) (rOwnE X.K C sp E true) := by
  intro pins s σ H x y v u Q I rx ry h
  obtain ⟨a, dx, fs, t, rfl, ha, ty, hn, q⟩ := h
  cases rx
  obtain ⟨mA, O, _⟩ := ins_get I.hok ha
  obtain ⟨od, J, _⟩ := O.look
  obtain ⟨P, Z, hp, _⟩ := kit_of I ry ty
  show wpAny (model X.prog X.w) X.A (richCompare .NotEq (.ref a) u) (EP X pins σ Q) X.xe s
  refine ne_K (Nat.lt_of_le_of_lt (Nat.add_le_add_left (by decide : 1 ≤ 64) _) hr.units) I.kIn J (Z.ty _ _ I.kIn hp) hn h0 he hf hmo ?_
  have r2 : Vals [V.ref a, y] [Value.ref a, u] := .cons rfl (.cons ry .nil)
  have hl : ([Value.ref a, u] : List Value).length = ps.length := by rw [← r2.length]; exact F.len _ _ _ _ q
  refine wpAny_call (codeAny_mono (F.run X.A.in1 X.stack s H ⟨[.ref a, u], []⟩ [.ref a, u] [.ref a, y] _ E hr.in1 I.env0.in1 (by simpa using hb s [.ref a, u] I.kIn (by simpa using hl)) r2 q) fun r s' hq => ?_)
  cases r with
  | error e => exact hx pins σ H s e s' I hq
  | ok fl =>
    cases fl with
    | ret w =>
      obtain ⟨z, H', I', rz, c, ez, hz⟩ := I.after hq
      subst ez
      cases rz
      exact ⟨c, rfl, .bl (!c), H', I', rfl, hz⟩
    | next => exact False.elim hq
    | brk => exact False.elim hq
    | cont => exact False.elim hq
end
end VR

namespace VR
open PySem PySem.Spec PyProof.Rows L2
theorem filterMap_cong {α β : Type} {f g : α → Option β} : ∀ {l : List α}, (∀ a, a ∈ l → f a = g a) → l.filterMap f = l.filterMap g
  | [], _ => rfl
  | a :: l, h => by
    rw [List.filterMap_cons, List.filterMap_cons, h a (List.mem_cons_self ..), filterMap_cong (l := l) fun b hb => h b (List.mem_cons_of_mem _ hb)]
section
open HT
variable {prog : Program} {w : World} {A : Around} {E : Value → Shared → Prop} {s : Shared}
theorem sliceApplied_rev {sl : Addr} {vs : Value} {n : Nat} {Q : Int × Int × Nat → Shared → Prop} (hs : s.heap.IsSliceOf sl .none .none vs) (ps : IsPart vs (some (-1)))
    (h : Q ((n : Int) - 1, -1, n) s) : wpAny (model prog w) A (Builtin.Slice.sliceApplied (.ref sl) (pure (n : Int))) Q E s := by
  obtain ⟨os, hos, hcs, hds⟩ := id hs
  unfold Builtin.Slice.sliceApplied Builtin.Slice.sliceFields
  refine wpAny_bind (wpAny_bind (wpAny_field hos hds (x := .none) rfl (wpAny_bind (wpAny_field hos hds (x := .none) rfl (wpAny_bind (wpAny_field hos hds (x := vs) rfl (wpAny_pure ?_)))))))
  refine wpAny_bind (slicePart_ ps ?_)
  show wpAny _ _ (if ((-1 : Int) == 0) = true then _ else _) _ _ s
  rw [if_neg (by decide)]
  refine wpAny_bind (slicePart_ .none (wpAny_bind (slicePart_ .none (wpAny_bind (wpAny_pure ?_)))))
  show wpAny _ _ (match Builtin.Slice.sliceAdjust none none (-1) (n : Int) with | (lo, hi) => pure (lo, (-1 : Int), Builtin.Slice.slicePlaces lo hi (-1))) _ _ s
  have e1 : Builtin.Slice.sliceAdjust none none (-1) (n : Int) = ((n : Int) - 1, -1) := by
    unfold Builtin.Slice.sliceAdjust
    have h1 : ((-1 : Int) < 0) := by decide
    simp only [h1, if_true]
  have e2 : Builtin.Slice.slicePlaces ((n : Int) - 1) (-1) (-1) = n := by
    unfold Builtin.Slice.slicePlaces
    have h1 : ¬ ((-1 : Int) > 0) := by decide
    have h2 : (-(-1 : Int)) = 1 := by decide
    simp only [h1, if_false, h2, Int.ediv_one]
    split <;> omega
  rw [e1]
  show wpAny _ _ (pure ((n : Int) - 1, (-1 : Int), Builtin.Slice.slicePlaces ((n : Int) - 1) (-1) (-1))) _ _ s
  rw [e2]
  exact wpAny_pure h
theorem pick_rev (xs : Array Value) : ((List.range xs.size).filterMap fun (m : Nat) => xs[(((xs.size : Int) - 1) + (m : Int) * (-1)).toNat]?).toArray = xs.toList.reverse.toArray := by
  have e : ∀ m, m ∈ List.range xs.size → xs[(((xs.size : Int) - 1) + (m : Int) * (-1)).toNat]? = xs[xs.size - 1 - m]? := by
    intro m hm
    have := List.mem_range.mp hm
    have q : (((xs.size : Int) - 1) + (m : Int) * (-1)).toNat = xs.size - 1 - m := by omega
    rw [q]
  have e3 : ((List.range xs.size).filterMap fun (m : Nat) => xs[(((xs.size : Int) - 1) + (m : Int) * (-1)).toNat]?) = (List.range xs.size).filterMap fun m => xs[xs.size - 1 - m]? :=
    filterMap_cong e
  rw [e3]
  have e4 : ((List.range xs.size).filterMap fun m => xs[xs.size - 1 - m]?) = ((List.range xs.size).map fun k => xs.size - 1 - k).filterMap (xs[·]?) := by
    rw [List.filterMap_map]; rfl
  rw [e4, PySem.W.krv_range, List.filterMap_reverse, PySem.W.krv_all]
theorem getItem_tuple_rev {t sl : Addr} {items : Array Value} {vs : Value} {Q : Value → Shared → Prop} (ht : IsTup s.heap t items) (hs : s.heap.IsSliceOf sl .none .none vs) (ps : IsPart vs (some (-1)))
    (h : Q (.ref s.heap.objs.size) { s with heap := s.heap.push { cls := .type "tuple", data := .seq items.toList.reverse.toArray } })
    (hsz : items.size ≤ sizeLine) : wpAny (model prog w) A (getItem (.ref t) (.ref sl)) Q E s := by
  have htake : sizeOk (.seq items.toList.reverse.toArray) := by
    show items.toList.reverse.toArray.size ≤ sizeLine
    rw [List.size_toArray, List.length_reverse, Array.length_toList]
    exact hsz
  obtain ⟨os, hos, hcs, hds⟩ := id hs
  have hTs : s.TypeIs (.ref sl) "slice" := ⟨os, hos, hcs⟩
  unfold getItem
  try with_reducible refine wpAny_holding ?_
  first | refine wpAny_bind (wpAny_pure ?_) | skip
  refine wpAny_bind (wpAny_sequenceKey ht.typeIs (by decide) ?_)
  refine wpAny_bind (wpAny_callSpecial?_slot (name := Str.ofString "__getitem__") ht.typeIs PyProof.Rows.slot_tuple_getitem
    (wpAny_call_entry PyProof.Rows.slot_tuple_getitem ht.typeIs entry_tuple_getitem ?_ (args_tuple_getitem _ _)))
  show wpAny _ _ (Builtin.Tuple.tupleItemsOf (.ref t) >>= _) _ _ s
  refine wpAny_bind (tupleItemsOf_ ht ?_)
  refine wpAny_bind (wpAny_typeOf hTs ?_)
  rw [if_pos (by decide)]
  refine wpAny_bind (sliceApplied_rev hs ps ?_)
  have hno : ¬ ((((items.size : Int) - 1) == 0 && (-1 : Int) == 1 && items.size == items.size) = true) := by
    intro q
    rw [Bool.and_eq_true, Bool.and_eq_true] at q
    exact absurd q.1.2 (by decide)
  show wpAny _ _ (if (((items.size : Int) - 1) == 0 && (-1 : Int) == 1 && items.size == items.size) = true then _ else _) _ _ s
  rw [if_neg hno, pick_rev]
  first
    | exact wpAny_bind (m := Builtin.Tuple.tupleExact _) (wpAny_newObj_type (wpAny_pure ⟨_, rfl, wpAny_pure h⟩) htake)
    | exact wpAny_bind (m := Builtin.Tuple.tupleExact _) (wpAny_newObj_type (wpAny_bind (wpAny_pure (wpAny_pure ⟨_, rfl, wpAny_pure h⟩))) htake)
    | exact wpAny_bind (wpAny_bind (m := Builtin.Tuple.tupleExact _) (wpAny_newObj_type (wpAny_pure (wpAny_pure ⟨_, rfl, wpAny_pure h⟩)) htake))
    | exact wpAny_bind (wpAny_bind (m := Builtin.Tuple.tupleExact _) (wpAny_newObj_type (wpAny_pure ⟨_, rfl, wpAny_pure h⟩) htake))
end
/-- t[::-1], a tuple -/
def tRevT (K : PySem.W.Frag) (te : TE) : TE := fun σ H Q => te σ H fun x H1 => ∃ a xs, x = .ref a ∧ SqT K H1 a xs ∧ ∀ p, H1 p = none → Q (.ref p) (upd H1 p (.tup xs.reverse))
theorem pe_revT {X : Cx} {e : Expr} {te : TE} {k : Nat} {p1 p2 p3 pos : Pos} (he : PE X e te) : PE X (.Subscript e (.Slice none none (some (.UnaryOp .USub (.Constant (.int 1) k p1) p2)) p3) pos) (tRevT X.K te) := by
  refine ⟨fun pins s σ H Q I h => ?_⟩
  refine Subscript_ (thn (he.run pins s σ H _ I h) fun v s1 ⟨x, H1, I1, r1, q1⟩ => ?_)
  obtain ⟨a, xs, ex, hx, q⟩ := q1
  subst ex
  cases r1
  have hst : PO X (some (.UnaryOp .USub (.Constant (.int 1) k p1) p2)) (tPart (tUn (rU fun i => .int (-i)) (tC (.int 1)))) := po_some (pe_un un_neg pe_int)
  refine wpAny_Slice (thn (po_none.run pins s1 σ H1 (fun o H2 => o = none ∧ H2 = H1) I1 ⟨rfl, rfl⟩) fun vl s2 ⟨l, H2, I2, pl, el, e2⟩ => ?_)
  subst el e2
  refine thn (po_none.run pins s2 σ H2 (fun o H3 => o = none ∧ H3 = H2) I2 ⟨rfl, rfl⟩) fun vu s3 ⟨u, H3, I3, pu, eu, e3⟩ => ?_
  subst eu e3
  refine thn (hst.run pins s3 σ H3 (fun o H4 => o = some (-1) ∧ H4 = H3) I3 ⟨1, rfl, -1, rfl, rfl, rfl⟩) fun vs s4 ⟨o, H4, I4, ps, eo, e4⟩ => ?_
  subst eo e4
  have I5 : Inv X pins σ H4 { s4 with heap := s4.heap.push { cls := .type "slice", data := .fields #[vl, vu, vs] } } := I4.kept (t' := s4.toks) fun b ob q => Heap.get?_push_of_some _ q
  obtain ⟨its, r, ht, hz⟩ := I5.tuple hx
  have hlen := r.length
  cases pl
  cases pu
  show wpAny (model X.prog X.w) X.A (subscriptTail e (.Slice none none (some (.UnaryOp .USub (.Constant (.int 1) k p1) p2)) p3) (.ref a) (.ref s4.heap.objs.size)) (EP X pins σ Q) X.xe { s4 with heap := s4.heap.push { cls := .type "slice", data := .fields #[.none, .none, vs] } }
  refine tail_any (ops := [.ref a, .ref s4.heap.objs.size]) ht.typeIs (PyProof.Rows.slot_tuple_getitem.lookup) ?_ (by with_unfolding_all rfl)
  refine getItem_tuple_rev ht (Heap.IsSliceOf.new _ .none .none vs) ps ?_ (by rw [List.size_toArray]; omega)
  refine ⟨.ref _, _, I5.laid (t' := s4.toks) (o := .tup xs.reverse) (fun b ob q => Heap.get?_push_of_some _ q) (Nat.le_refl _) ?_, rfl, q _ (I5.hok.fresh (Nat.le_refl _))⟩
  exact ⟨by rw [List.length_reverse]; exact hz, _, r.reverse, IsTup.new _ _⟩
end VR

/-! Small words: lists of ints as values, heaps that grow. -/
namespace VR
open PySem PySem.Spec PyProof.Rows L2
def iz (xs : List Int) : List V := xs.map V.int
theorem iz_get {xs : List Int} {i : Nat} {x : Int} (h : xs[i]? = some x) : (iz xs)[i]? = some (V.int x) := by unfold iz; rw [List.getElem?_map, h]; rfl
theorem of_iz_get {xs : List Int} {i : Nat} {v : V} (h : (iz xs)[i]? = some v) : ∃ x, xs[i]? = some x ∧ v = V.int x := by
  unfold iz at h
  rw [List.getElem?_map] at h
  cases e : xs[i]? with
  | none => rw [e] at h; cases h
  | some x => rw [e] at h; exact ⟨x, rfl, (Option.some.inj h).symm⟩
theorem iz_len (xs : List Int) : (iz xs).length = xs.length := by simp [iz]
theorem iz_set (xs : List Int) (j : Nat) (x : Int) : (iz xs).set j (V.int x) = iz (xs.set j x) := by simp [iz, List.map_set]
theorem smallL {n : Nat} (h : n ≤ 10000) : n ≤ sizeLine := by rw [sizeLine_eq]; omega
theorem _root_.L2.Same.tup {K : PySem.W.Frag} {H H' : Hp} {a : Addr} {xs : List V} (e : Same H H') (h : SqT K H a xs) : SqT K H' a xs := by
  rcases h with (h | ⟨o, h⟩) | h
  · exact .inl (.inl (e _ _ h))
  · exact .inl (.inr ⟨o, e _ _ h⟩)
  · exact .inr h
theorem _root_.L2.Same.new {H : Hp} {p : Addr} {o : HO} (h : H p = none) : Same H (upd H p o) := fun b u e => by rw [upd_ne (ne_of_none e h)]; exact e
theorem _root_.L2.Same.upd0 {H H' : Hp} {l : Addr} {o : HO} (e : Same H H') (h : H l = none) : Same H (upd H' l o) := fun b u q => by rw [upd_ne (ne_of_none q h)]; exact e b u q
theorem _root_.L2.Same.upN {H H' : Hp} {l : Addr} {o : HO} (e : Same H H') (h : H' l = none) : Same H (upd H' l o) := e.trans (L2.Same.new h)
theorem ite_max (a b : Nat) : (if (b : Int) > (a : Int) then V.int (b : Int) else V.int (a : Int)) = V.int ((max a b : Nat) : Int) := by
  split <;> congr 1 <;> omega
theorem iz_rep (n : Nat) : (List.replicate n [V.int 0]).flatten = iz (List.replicate n 0) := by
  induction n with
  | zero => rfl
  | succ n ih => rw [List.replicate_succ, List.flatten_cons, ih, List.replicate_succ]; rfl
theorem ixN_nat {n k : Nat} (h : k < n) : ixN n (k : Int) = some k := by
  unfold ixN
  rw [if_pos (by omega), if_pos (by omega)]
  simp

/-- a store to an object that is no tuple leaves the tuples -/
theorem _root_.L2.SqT.updNT {K : PySem.W.Frag} {H : Hp} {a p : Addr} {xs : List V} {o u : HO} (h : SqT K H a xs) (hp : H p = some u) (nt : ∀ ys, u ≠ .tup ys) (nf : ∀ ob v, u ≠ .frz ob v) : SqT K (upd H p o) a xs := by
  rcases h with (h | ⟨ob, h⟩) | h
  · exact .inl (.inl (by rw [upd_ne (ne_of h hp fun e => nt _ e.symm)]; exact h))
  · exact .inl (.inr ⟨ob, by rw [upd_ne (ne_of h hp fun e => nf _ _ e.symm)]; exact h⟩)
  · exact .inr h
theorem _root_.L2.SqT.updIns {K : PySem.W.Frag} {H : Hp} {a p C dx : Addr} {xs : List V} {o : HO} {fs : List (Str × V)} (h : SqT K H a xs) (hp : H p = some (.ins C dx fs)) : SqT K (upd H p o) a xs := h.updNT hp (fun _ e => nomatch e) (fun _ _ e => nomatch e)
end VR

/-! Tuples of ints as data. -/
namespace VR
open PySem PySem.Spec PyProof.Rows L2
def dI (xs : List Int) : PyData := .tuple (xs.map PyData.int)
theorem eqvAll_ints : ∀ xs ys : List Int, PyData.eqvAll (xs.map PyData.int) (ys.map PyData.int) = decide (xs = ys)
  | [], [] => by simp [PyData.eqvAll]
  | [], _ :: _ => by simp [PyData.eqvAll]
  | _ :: _, [] => by simp [PyData.eqvAll]
  | x :: xs, y :: ys => by
    rw [List.map_cons, List.map_cons, PyData.eqvAll, eqvAll_ints xs ys, PyData.eqv]
    by_cases h : x = y <;> by_cases g : xs = ys <;> simp [h, g]
theorem eqv_ints (xs ys : List Int) : PyData.eqv (dI xs) (dI ys) = decide (xs = ys) := by
  unfold dI
  rw [PyData.eqv, eqvAll_ints]
theorem canAll_ints : ∀ xs : List Int, PyData.canLayAll0 (xs.map PyData.int) = true
  | [] => by simp [PyData.canLayAll0]
  | x :: xs => by rw [List.map_cons, PyData.canLayAll0, canAll_ints xs, PyData.canLay0]; rfl
theorem depth_ints : ∀ xs : List Int, PyData.depthAll (xs.map PyData.int) = 0
  | [] => by simp [PyData.depthAll]
  | x :: xs => by rw [List.map_cons, PyData.depthAll, depth_ints xs, PyData.depth]; rfl
theorem shaped_ints (xs : List Int) : SeqAt.shaped (dI xs) = true := by
  unfold SeqAt.shaped dI
  rw [PyData.canLay0, canAll_ints, PyData.depth, depth_ints]
  rfl
theorem dpAll_ints {K : PySem.W.Frag} {H : Hp} : ∀ xs : List Int, DpAll K H (iz xs) (xs.map PyData.int)
  | [] => .nil
  | x :: xs => .cons (.int x) (dpAll_ints xs)
theorem dp_ints {K : PySem.W.Frag} {H : Hp} {a : Addr} {xs : List Int} (h : SqT K H a (iz xs)) : Dp K H (.ref a) (dI xs) := .tup h (dpAll_ints xs)
/-- a term of types for isinstance -/
theorem kit_cls_ref {K : PySem.W.Frag} {C : Addr} {t : Value} {b : Bool} (h1 : PySem.W.isClsIn K C = true) (h2 : PySem.W.typeIn K (.ref C) = some (.type "type")) (h3 : (t == .ref C) = false) (h4 : PySem.W.subIn K t (.ref C) = some b) : PySem.W.kitOne K t (.ref C) = some b := by
  unfold PySem.W.kitOne PySem.W.kitCls
  have h1' : (PySem.W.clsIn K C).isSome = true := h1
  rw [h3, if_neg (by decide)]
  show (if ((PySem.W.clsIn K C).isSome && PySem.W.typeIn K (Value.ref C) == some (Value.type "type")) = true then PySem.W.subIn K t (Value.ref C) else none) = some b
  rw [h1', h2, if_pos (by rfl), h4]
theorem kit_self {K : PySem.W.Frag} {t : Value} (h : (t == t) = true) : PySem.W.kitOne K t t = some true := by
  unfold PySem.W.kitOne
  rw [if_pos h]
end VR

namespace K40
open PySem L2 SZ VR StX RT
def top (i : Nat) : Stmt := PySem.Challenge.pw_farmisses_k40_sums_of_sizes.main.body.getD i (.Pass ⟨0, 0, 0, 0⟩)
abbrev S_is_integer : Stmt := top 1
theorem sc_is_integer : FnScope ["value"] ["value"] (defScope S_is_integer) := ⟨rfl, rfl, rfl, by decide +kernel, rfl, by decide +kernel, by decide +kernel⟩
abbrev S_trimmed : Stmt := top 2
theorem sc_trimmed : FnScope ["parts", "many"] ["parts"] (defScope S_trimmed) := ⟨rfl, rfl, rfl, by decide +kernel, rfl, by decide +kernel, by decide +kernel⟩
abbrev S_sum : Stmt := top 3
theorem sc_sum : FnScope ["one", "other", "many", "parts", "power", "part"] ["one", "other"] (defScope S_sum) := ⟨rfl, rfl, rfl, by decide +kernel, rfl, by decide +kernel, by decide +kernel⟩
abbrev S_product : Stmt := top 4
theorem sc_product : FnScope ["one", "other", "many", "parts", "power", "part", "more", "factor"] ["one", "other"] (defScope S_product) := ⟨rfl, rfl, rfl, by decide +kernel, rfl, by decide +kernel, by decide +kernel⟩
abbrev S_negative : Stmt := top 5
theorem sc_negative : FnScope ["parts", "part"] ["parts"] (defScope S_negative) := ⟨rfl, rfl, rfl, by decide +kernel, rfl, by decide +kernel, by decide +kernel⟩
abbrev S_is_operand : Stmt := top 6
theorem sc_is_operand : FnScope ["value"] ["value"] (defScope S_is_operand) := ⟨rfl, rfl, rfl, by decide +kernel, rfl, by decide +kernel, by decide +kernel⟩
abbrev S_parts_of : Stmt := top 7
theorem sc_parts_of : FnScope ["operand"] ["operand"] (defScope S_parts_of) := ⟨rfl, rfl, rfl, by decide +kernel, rfl, by decide +kernel, by decide +kernel⟩
abbrev S_Size___init__ : Stmt := inClass (top 8) 0
theorem sc_Size___init__ : FnScope ["self", "parts"] ["self", "parts"] (defScope S_Size___init__) := ⟨rfl, rfl, rfl, by decide +kernel, rfl, by decide +kernel, by decide +kernel⟩
abbrev S_Size_coefficients : Stmt := inClass (top 8) 1
theorem sc_Size_coefficients : FnScope ["self"] ["self"] (defScope S_Size_coefficients) := ⟨rfl, rfl, rfl, by decide +kernel, rfl, by decide +kernel, by decide +kernel⟩
abbrev S_Size_degree : Stmt := inClass (top 8) 2
theorem sc_Size_degree : FnScope ["self"] ["self"] (defScope S_Size_degree) := ⟨rfl, rfl, rfl, by decide +kernel, rfl, by decide +kernel, by decide +kernel⟩
abbrev S_Size___add__ : Stmt := inClass (top 8) 3
theorem sc_Size___add__ : FnScope ["self", "other"] ["self", "other"] (defScope S_Size___add__) := ⟨rfl, rfl, rfl, by decide +kernel, rfl, by decide +kernel, by decide +kernel⟩
abbrev S_Size___sub__ : Stmt := inClass (top 8) 4
theorem sc_Size___sub__ : FnScope ["self", "other"] ["self", "other"] (defScope S_Size___sub__) := ⟨rfl, rfl, rfl, by decide +kernel, rfl, by decide +kernel, by decide +kernel⟩
abbrev S_Size___mul__ : Stmt := inClass (top 8) 5
theorem sc_Size___mul__ : FnScope ["self", "other"] ["self", "other"] (defScope S_Size___mul__) := ⟨rfl, rfl, rfl, by decide +kernel, rfl, by decide +kernel, by decide +kernel⟩
abbrev S_Size___neg__ : Stmt := inClass (top 8) 6
theorem sc_Size___neg__ : FnScope ["self"] ["self"] (defScope S_Size___neg__) := ⟨rfl, rfl, rfl, by decide +kernel, rfl, by decide +kernel, by decide +kernel⟩
abbrev S_Size___call__ : Stmt := inClass (top 8) 7
theorem sc_Size___call__ : FnScope ["self", "n", "value", "part"] ["self", "n"] (defScope S_Size___call__) := ⟨rfl, rfl, rfl, by decide +kernel, rfl, by decide +kernel, by decide +kernel⟩
abbrev S_Size___eq__ : Stmt := inClass (top 8) 8
theorem sc_Size___eq__ : FnScope ["self", "other"] ["self", "other"] (defScope S_Size___eq__) := ⟨rfl, rfl, rfl, by decide +kernel, rfl, by decide +kernel, by decide +kernel⟩
abbrev S_law_pool : Stmt := top 10
theorem sc_law_pool : FnScope ["_law_script", "_law_k", "_law_cell", "_law_heavy", "_law_blend", "_law_seed"] ["_law_script", "_law_k"] (defScope S_law_pool) := ⟨rfl, rfl, rfl, by decide +kernel, rfl, by decide +kernel, by decide +kernel⟩
abbrev S_law_take : Stmt := top 11
theorem sc_law_take : FnScope ["_law_pool_here", "_law_wide", "_law_result"] ["_law_pool_here", "_law_wide"] (defScope S_law_take) := ⟨rfl, rfl, rfl, by decide +kernel, rfl, by decide +kernel, by decide +kernel⟩
abbrev S_law_value : Stmt := top 12
theorem sc_law_value : FnScope ["_law_parts_here", "_law_n", "_law_found", "_law_part"] ["_law_parts_here", "_law_n"] (defScope S_law_value) := ⟨rfl, rfl, rfl, by decide +kernel, rfl, by decide +kernel, by decide +kernel⟩
abbrev S_law_parts : Stmt := top 13
theorem sc_law_parts : FnScope ["_law_pool_here", "_law_menu", "_law_turn"] ["_law_pool_here"] (defScope S_law_parts) := ⟨rfl, rfl, rfl, by decide +kernel, rfl, by decide +kernel, by decide +kernel⟩
abbrev S_law_trimmed : Stmt := top 14
theorem sc_law_trimmed : FnScope ["_law_parts_here", "_law_found"] ["_law_parts_here"] (defScope S_law_trimmed) := ⟨rfl, rfl, rfl, by decide +kernel, rfl, by decide +kernel, by decide +kernel⟩
abbrev S_law_right : Stmt := top 15
theorem sc_law_right : FnScope ["_law_one", "_law_other", "_law_amount", "_law_n", "_law_first", "_law_second", "_law_due", "_law_size", "_law_told"] ["_law_one", "_law_other", "_law_amount", "_law_n"] (defScope S_law_right) := ⟨rfl, rfl, rfl, by decide +kernel, rfl, by decide +kernel, by decide +kernel⟩
abbrev S_law : Stmt := top 16
theorem sc_law : FnScope ["_law_script", "_law_k", "_law_pool_here", "_law_some", "_law_others", "_law_one", "_law_other", "_law_amount", "_law_n"] ["_law_script"] (defScope S_law) := ⟨rfl, rfl, rfl, by decide +kernel, rfl, by decide +kernel, by decide +kernel⟩
/-! ### the sizes module -/
/-- the module's names that stand for Python's own -/
structure Bn (mg : Str → Option Value) : Prop where
  len : mg "len" = none
  tuple : mg "tuple" = none
  max : mg "max" = none
  enumerate : mg "enumerate" = none
  reversed : mg "reversed" = none
  isinstance : mg "isinstance" = none
  int : mg "int" = none
  bool : mg "bool" = none
/-- a tuple of iz goes in, the one without the noughts comes out -/
def spTrim (K : PySem.W.Frag) : Sp := fun vs H Q _ => ∃ (a : Addr) (xs : List Int), vs = [.ref a] ∧ SqT K H a (iz xs) ∧ xs.length ≤ 1000 ∧ ∀ (p : Addr) (H' : Hp), Same H H' → SqT K H' p (iz (trim xs)) → Q (.ref p) H'
section
variable {P : Program} {w : World} {K : PySem.W.Frag} {mg : Str → Option Value} {base : Heap}
theorem ok_trimmed {f : Addr} {fd : FuncData} (F : Fun K "_trimmed" "_trimmed" S_trimmed f fd) (B : Bn mg) : FnOk P w K mg base CX0 1 f fd ["parts"] (spTrim K) := by
  refine F.ok sc_trimmed (fun vs H Q E h => ?_) (fun cdv A outer s H vs Q E hr h => ?_)
  · obtain ⟨a, xs, rfl, _⟩ := h; rfl
  · obtain ⟨a, xs, rfl, ha, hl, k⟩ := h
    refine ⟨_, pss_cons (ps_set (i := 1) sc_trimmed.nd rfl (Or.inl rfl) (pe_callB call_len_seq (by rfl) B.len PySem.boot_len (pa_cons (pv 0) pa_nil)))
      (pss_cons (ps_while PassesOwn.never (PW.pt (pw_and (pt_cmpR op_gt (pv 1) pe_int (nomark _)) (pw_and1 (pt_cmpR op_eq (pe_ix ix_tup (pv 0) (pe_op op_sub (pv 1) pe_int) (fun _ _ => rfl)) pe_int (nomark _)))))
        (pss_one (ps_aug (i := 1) sc_trimmed.nd rfl (.inl rfl) pe_int ip_sub)))
      (pss_one (ps_ret (pe_callTy call_tuple_of (by rfl) B.tuple (by decide +kernel) (pa_cons (pe_slice sl_tupA (pv 0) po_none (po_some (pv 1))) pa_nil))))), ?_⟩
    refine ⟨_, rfl, a, iz xs, rfl, .inr ha, ?_⟩
    refine ⟨fun m σ H' => m ≤ xs.length ∧ σ = [some (.ref a), some (.int m)] ∧ H' = H ∧ trim (xs.take m) = trim xs, ⟨xs.length, Nat.le_refl _, by rw [iz_len]; rfl, rfl, by rw [List.take_length]⟩, ?_⟩
    rintro m σ H' ⟨hm, rfl, rfl, ht⟩
    refine ⟨_, rfl, _, _, rfl, rfl, _, rfl, ?_⟩
    have fin : trim xs = xs.take m → tRet (tCB (fun (ys : List V) (H1 : Hp) (Q1 : VK) => ∃ p zs, ys = [V.ref p] ∧ ((SqL K H1 p zs ∧ ∀ l, H1 l = none → Q1 (.ref l) (upd H1 l (.tup zs))) ∨ (SqT K H1 p zs ∧ Q1 (.ref p) H1)))
        (tCons (tSl (rSlA K) (tVar 0) tNoPart (tPart (tVar 1))) tNil)) { nx := fun _ H'' => Q .non H'', rt := Q } [some (.ref a), some (.int m)] H' := fun e => by
      refine ⟨_, rfl, _, rfl, _, rfl, a, iz xs, rfl, ha, fun hw => ?_, fun hw p hp => ?_⟩
      · refine ⟨a, iz xs, rfl, .inr ⟨ha, k a H' (Same.refl _) ?_⟩⟩
        have h2 := hw.2
        rw [HT.sIx_nat, iz_len, Nat.min_eq_left hm] at h2
        rw [e, h2, List.take_length]
        exact ha
      · refine ⟨p, _, rfl, .inr ⟨.of upd_same, k p _ (Same.new hp) ?_⟩⟩
        have ec : cutV (iz xs) none (some (m : Int)) = iz (trim xs) := by
          unfold cutV
          rw [HT.sIx_nat, HT.sIx_none, iz_len, Nat.min_eq_left hm, List.drop_zero, Nat.sub_zero, e]
          simp [iz, List.map_take]
        rw [← ec]
        exact .of upd_same
    refine ite2 (fun h0 => ?_) (fun h0 => ?_)
    · have h1 : (0 : Int) < m := of_decide_eq_true h0
      obtain ⟨j, rfl⟩ : ∃ j, m = j + 1 := ⟨m - 1, by omega⟩
      have h2 : j < xs.length := hm
      have hx : xs[j]? = some xs[j] := List.getElem?_eq_getElem h2
      refine ⟨_, rfl, _, rfl, _, _, rfl, rfl, a, iz xs, _, _, rfl, rfl, ha, at_of (j := j) (by omega) (iz_get hx), rfl, _, rfl, ?_⟩
      have et : xs.take (j + 1) = xs.take j ++ [xs[j]] := by rw [List.take_add_one, hx]; rfl
      refine ite2 (fun hz => ?_) (fun hz => ?_)
      · have ez : xs[j] = 0 := by simpa using hz
        refine ⟨fun σ' H'' => j ≤ xs.length ∧ σ' = [some (.ref a), some (.int (j : Int))] ∧ H'' = H' ∧ trim (xs.take j) = trim xs, fun σ' H'' q => ⟨j, by omega, q⟩, ?_⟩
        refine ⟨_, rfl, _, _, rfl, rfl, by omega, ?_, rfl, ?_⟩
        · show [some (V.ref a), some (V.int (((j + 1 : Nat) : Int) - 1))] = _
          have e2 : ((j + 1 : Nat) : Int) - 1 = (j : Int) := by omega
          rw [e2]
        · rw [← ht, et, ez, trim_app0]
      · have ez : xs[j] ≠ 0 := by simpa using hz
        have e3 : trim xs = xs.take (j + 1) := by rw [← ht, et, trim_app _ ez]
        exact fin e3
    · have h1 : ¬ (0 : Int) < m := by simpa using h0
      have e0 : m = 0 := by omega
      subst e0
      exact fin (by rw [← ht]; rfl)
end
/-- two tuples of ints go in, a new tuple comes out -/
def sp2 (K : PySem.W.Frag) (g : List Int → List Int → List Int) (C : List Int → List Int → Prop) : Sp := fun vs H Q _ => ∃ (a b : Addr) (xs ys : List Int), vs = [.ref a, .ref b] ∧ SqT K H a (iz xs) ∧ SqT K H b (iz ys) ∧ xs.length ≤ 500 ∧ ys.length ≤ 500 ∧ C xs ys ∧
  ∀ (p : Addr) (H' : Hp), Same H H' → H' p = some (.tup (iz (g xs ys))) → Q (.ref p) H'
section
variable {P : Program} {w : World} {K : PySem.W.Frag} {mg : Str → Option Value} {base : Heap}
theorem ok_sum {f : Addr} {fd : FuncData} (F : Fun K "_sum" "_sum" S_sum f fd) (B : Bn mg) : FnOk P w K mg base CX0 1 f fd ["one", "other"] (sp2 K sumL fun _ _ => True) := by
  refine F.ok sc_sum (fun vs H Q E h => ?_) (fun cdv A outer s H vs Q E hr h => ?_)
  · obtain ⟨a, b, xs, ys, rfl, _⟩ := h; rfl
  · obtain ⟨a, b, xs, ys, rfl, ha, hb, hxl, hyl, _, k⟩ := h
    refine ⟨_, pss_cons (ps_set (i := 2) sc_sum.nd rfl (Or.inl rfl) (pe_callB (call_max2 rfl) (by rfl) B.max (by decide +kernel)
          (pa_cons (pe_callB call_len_seq (by rfl) B.len PySem.boot_len (pa_cons (pv 0) pa_nil)) (pa_cons (pe_callB call_len_seq (by rfl) B.len PySem.boot_len (pa_cons (pv 1) pa_nil)) pa_nil))))
      (pss_cons (ps_set (i := 3) sc_sum.nd rfl (Or.inl rfl) (pe_op op_rep (pe_lst (pa_cons pe_int pa_nil)) (pv 2)))
      (pss_cons (ps_for PassesOwn.never rfl (pi_enumT (by rfl) B.enumerate (pa_cons (pv 0) pa_nil)) (pg_tup rfl (pgs_cons (pg_name (i := 4) sc_sum.nd rfl (Or.inl rfl)) (pgs_cons (pg_name (i := 5) sc_sum.nd rfl (Or.inl rfl)) pgs_nil)))
        (pss_one (ps_asg (pv 5) (pg_sub (pv 3) (pv 4) set_list))))
      (pss_cons (ps_for PassesOwn.never rfl (pi_enumT (by rfl) B.enumerate (pa_cons (pv 1) pa_nil)) (pg_tup rfl (pgs_cons (pg_name (i := 4) sc_sum.nd rfl (Or.inl rfl)) (pgs_cons (pg_name (i := 5) sc_sum.nd rfl (Or.inl rfl)) pgs_nil)))
        (pss_one (ps_asg (pe_op op_add (pe_ix ix_list (pv 3) (pv 4) (fun _ _ => rfl)) (pv 5)) (pg_sub (pv 3) (pv 4) set_list))))
      (pss_one (ps_ret (pe_callTy call_tuple_of (by rfl) B.tuple (by decide +kernel) (pa_cons (pv 3) pa_nil))))))), ?_⟩
    refine ⟨_, rfl, a, iz xs, rfl, .inr ha, _, rfl, b, iz ys, rfl, .inr hb, _, _, rfl, ?_⟩
    rw [iz_len, iz_len]
    show tSeq _ _ _ [some (.ref a), some (.ref b), some (.int (if (ys.length : Int) > (xs.length : Int) then (ys.length : Int) else (xs.length : Int))), none, none, none] _
    have em : (if (ys.length : Int) > (xs.length : Int) then (ys.length : Int) else (xs.length : Int)) = ((max xs.length ys.length : Nat) : Int) := by split <;> omega
    rw [em]
    -- parts = [0] * many
    refine ⟨smallL (by show 1 ≤ 10000; decide), fun l0 h0 => ⟨_, rfl, l0, _, _, rfl, rfl, upd_same, by omega, by omega, by rw [Int.toNat_natCast]; exact smallL (by show 1 * _ ≤ 10000; omega), fun l hl => ?_⟩⟩
    rw [Int.toNat_natCast, iz_rep]
    have hl0 : H l = none := (Same.new h0).free hl
    have s0 : Same H (upd (upd H l0 (.lst [V.int 0])) l (.lst (iz (List.replicate (max xs.length ys.length) 0)))) := (Same.new h0).upN hl
    -- for power, part in enumerate(one)
    refine ⟨_, rfl, a, iz xs, rfl, s0.tup ha, for_it (walk_enumT (xs := iz xs)) (fun i σ H' => ∃ zs v4 v5, σ = [some (.ref a), some (.ref b), some (.int ((max xs.length ys.length : Nat) : Int)), some (.ref l), v4, v5] ∧ H' l = some (.lst (iz zs)) ∧ Same H H' ∧ Is zs (max xs.length ys.length) (fun k => (xs.take i).getD k 0))
      ⟨_, none, none, rfl, upd_same, s0, ⟨by simp, fun k => by rw [getD_rep]; simp⟩⟩ (fun i σ H' _ ⟨_, _, _, _, _, s1, _⟩ => s1.tup ha) ?_ ?_⟩
    · rintro i v σ H1 H2 hi ⟨zs, v4, v5, rfl, hz, s1, I⟩ ⟨T, x', y', rfl, hT, rfl, ex, ey⟩
      obtain ⟨x, hx, rfl⟩ := of_iz_get ey
      cases ex
      rw [iz_len] at hi
      refine ⟨T, _, rfl, .of upd_same, rfl, _, _, rfl, _, _, rfl, rfl, ?_⟩
      have hlT : l ≠ T := ne_of_none hz hT
      refine ⟨_, rfl, _, rfl, _, rfl, l, iz zs, _, i, rfl, rfl, by rw [upd_ne hlT]; exact hz, ixN_nat (by rw [iz_len, I.len]; omega), ?_⟩
      rw [iz_set]
      refine ⟨_, _, _, rfl, upd_same, (s1.upN hT).upd0 hl0, I.set (d := x) (by omega) fun k => ?_⟩
      by_cases e : k = i
      · subst e
        rw [if_pos rfl, List.take_add_one, hx]
        simp only [List.getD_eq_getElem?_getD]
        rw [List.getElem?_append_right (by rw [List.length_take]; omega), List.length_take, Nat.min_eq_left (Nat.le_of_lt hi)]
        simp
      · rw [if_neg e]
        simp only [List.getD_eq_getElem?_getD, List.getElem?_take]
        by_cases h1 : k < i
        · rw [if_pos h1, if_pos (by omega)]
        · rw [if_neg h1, if_neg (by omega)]
    · rintro σ H1 ⟨zs, v4, v5, rfl, hz, s1, I⟩
      -- for power, part in enumerate(other)
      refine ⟨_, rfl, b, iz ys, rfl, s1.tup hb, for_it (walk_enumT (xs := iz ys)) (fun i σ H' => ∃ zs v4 v5, σ = [some (.ref a), some (.ref b), some (.int ((max xs.length ys.length : Nat) : Int)), some (.ref l), v4, v5] ∧ H' l = some (.lst (iz zs)) ∧ Same H H' ∧ Is zs (max xs.length ys.length) (fun k => xs.getD k 0 + (ys.take i).getD k 0))
        ⟨zs, v4, v5, rfl, hz, s1, ⟨I.len, fun k => by rw [I.get]; simp [iz_len]⟩⟩ (fun i σ H' _ ⟨_, _, _, _, _, s1, _⟩ => s1.tup hb) ?_ ?_⟩
      · rintro i v σ H1 H2 hi ⟨zs, v4, v5, rfl, hz, s1, I⟩ ⟨T, x', y', rfl, hT, rfl, ex, ey⟩
        obtain ⟨y, hy, rfl⟩ := of_iz_get ey
        cases ex
        rw [iz_len] at hi
        refine ⟨T, _, rfl, .of upd_same, rfl, _, _, rfl, _, _, rfl, rfl, ?_⟩
        have hlT : l ≠ T := ne_of_none hz hT
        have hil : i < zs.length := by rw [I.len]; omega
        have hzi : zs[i]? = some zs[i] := List.getElem?_eq_getElem hil
        refine ⟨_, rfl, _, rfl, l, iz zs, _, _, rfl, rfl, .of (by rw [upd_ne hlT]; exact hz), at_of (j := i) rfl (iz_get hzi), _, rfl, _, _, rfl, rfl, _, rfl, _, rfl, l, iz zs, _, i, rfl, rfl, by rw [upd_ne hlT]; exact hz, ixN_nat (by rw [iz_len]; exact hil), ?_⟩
        rw [iz_set]
        refine ⟨_, _, _, rfl, upd_same, (s1.upN hT).upd0 hl0, I.set (d := zs[i] + y) (by omega) fun k => ?_⟩
        have hzg : zs[i] = xs.getD i 0 + (ys.take i).getD i 0 := by rw [← I.get i, getD_some hzi]
        by_cases e : k = i
        · subst e
          rw [if_pos rfl, hzg]
          have e1 : (ys.take k).getD k 0 = 0 := getD_of_ge (by rw [List.length_take]; omega)
          have e2 : (ys.take (k + 1)).getD k 0 = y := by
            rw [List.take_add_one, hy]
            simp only [List.getD_eq_getElem?_getD]
            rw [List.getElem?_append_right (by rw [List.length_take]; omega), List.length_take, Nat.min_eq_left (Nat.le_of_lt hi)]
            simp
          rw [e1, e2]; omega
        · rw [if_neg e]
          simp only [List.getD_eq_getElem?_getD, List.getElem?_take]
          by_cases h1 : k < i
          · rw [if_pos h1, if_pos (by omega)]
          · rw [if_neg h1, if_neg (by omega)]
      · rintro σ H1 ⟨zs, v4, v5, rfl, hz, s1, I⟩
        have ez : zs = sumL xs ys := I.eq (len_sumL xs ys) fun k => by rw [get_sumL, iz_len, List.take_length]
        subst ez
        refine ⟨_, rfl, l, _, rfl, .inl ⟨.of hz, fun p hp => ?_⟩⟩
        exact k p _ (s1.upN hp) upd_same
end
section
variable {P : Program} {w : World} {K : PySem.W.Frag} {mg : Str → Option Value} {base : Heap}
theorem ok_product {f : Addr} {fd : FuncData} (F : Fun K "_product" "_product" S_product f fd) (B : Bn mg) : FnOk P w K mg base CX0 1 f fd ["one", "other"] (sp2 K mulL fun xs ys => ∀ x ∈ xs, ∀ y ∈ ys, CMulW x y) := by
  refine F.ok sc_product (fun vs H Q E h => ?_) (fun cdv A outer s H vs Q E hr h => ?_)
  · obtain ⟨a, b, xs, ys, rfl, _⟩ := h; rfl
  · obtain ⟨a, b, xs, ys, rfl, ha, hb, hxl, hyl, hC, k⟩ := h
    refine ⟨_, pss_cons (ps_set (i := 2) sc_product.nd rfl (Or.inl rfl) (pe_op op_add (pe_callB call_len_seq (by rfl) B.len PySem.boot_len (pa_cons (pv 0) pa_nil)) (pe_callB call_len_seq (by rfl) B.len PySem.boot_len (pa_cons (pv 1) pa_nil))))
      (pss_cons (ps_set (i := 3) sc_product.nd rfl (Or.inl rfl) (pe_op op_rep (pe_lst (pa_cons pe_int pa_nil)) (pv 2)))
      (pss_cons (ps_for PassesOwn.never rfl (pi_enumT (by rfl) B.enumerate (pa_cons (pv 0) pa_nil)) (pg_tup rfl (pgs_cons (pg_name (i := 4) sc_product.nd rfl (Or.inl rfl)) (pgs_cons (pg_name (i := 5) sc_product.nd rfl (Or.inl rfl)) pgs_nil)))
        (pss_one (ps_for PassesOwn.never rfl (pi_enumT (by rfl) B.enumerate (pa_cons (pv 1) pa_nil)) (pg_tup rfl (pgs_cons (pg_name (i := 6) sc_product.nd rfl (Or.inl rfl)) (pgs_cons (pg_name (i := 7) sc_product.nd rfl (Or.inl rfl)) pgs_nil)))
          (pss_one (ps_asg (pe_op op_add (pe_ix ix_list (pv 3) (pe_op op_add (pv 4) (pv 6)) (fun _ _ => rfl)) (pe_op op_mulW (pv 5) (pv 7))) (pg_sub (pv 3) (pe_op op_add (pv 4) (pv 6)) set_list))))))
      (pss_one (ps_ret (pe_callTy call_tuple_of (by rfl) B.tuple (by decide +kernel) (pa_cons (pv 3) pa_nil)))))), ?_⟩
    refine ⟨_, rfl, a, iz xs, rfl, .inr ha, _, rfl, b, iz ys, rfl, .inr hb, _, _, rfl, rfl, ?_⟩
    rw [iz_len, iz_len]
    have em : (xs.length : Int) + (ys.length : Int) = ((xs.length + ys.length : Nat) : Int) := by omega
    show tSeq _ _ _ [some (.ref a), some (.ref b), some (.int ((xs.length : Int) + (ys.length : Int))), none, none, none, none, none] _
    rw [em]
    refine ⟨smallL (by show 1 ≤ 10000; decide), fun l0 h0 => ⟨_, rfl, l0, _, _, rfl, rfl, upd_same, by omega, by omega, by rw [Int.toNat_natCast]; exact smallL (by show 1 * _ ≤ 10000; omega), fun l hl => ?_⟩⟩
    rw [Int.toNat_natCast, iz_rep]
    have hl0 : H l = none := (Same.new h0).free hl
    have s0 : Same H (upd (upd H l0 (.lst [V.int 0])) l (.lst (iz (List.replicate (xs.length + ys.length) 0)))) := L2.Same.upN (L2.Same.new h0) hl
    refine ⟨_, rfl, a, iz xs, rfl, L2.Same.tup s0 ha, for_it (walk_enumT (xs := iz xs)) (fun i σ H' => ∃ zs v4 v5 v6 v7, σ = [some (.ref a), some (.ref b), some (.int ((xs.length + ys.length : Nat) : Int)), some (.ref l), v4, v5, v6, v7] ∧ H' l = some (.lst (iz zs)) ∧ Same H H' ∧ Is zs (xs.length + ys.length) (cf (xs.take i) ys))
      ⟨_, none, none, none, none, rfl, upd_same, s0, ⟨by simp, fun k => by rw [getD_rep]; rfl⟩⟩ (fun i σ H' _ ⟨_, _, _, _, _, _, _, s1, _⟩ => s1.tup ha) ?_ ?_⟩
    · rintro i v σ H1 H2 hi ⟨zs, v4, v5, v6, v7, rfl, hz, s1, I⟩ ⟨T, x', y', rfl, hT, rfl, ex, ey⟩
      obtain ⟨x, hx, rfl⟩ := of_iz_get ey
      cases ex
      rw [iz_len] at hi
      have hlT : l ≠ T := ne_of_none hz hT
      refine ⟨T, _, rfl, .of upd_same, rfl, _, _, rfl, _, _, rfl, rfl, ?_⟩
      have s2 := s1.upN (o := .tup [.int (i : Nat), .int x]) hT
      refine ⟨_, rfl, b, iz ys, rfl, s2.tup hb, for_it (walk_enumT (xs := iz ys)) (fun j σ H' => ∃ zs v6 v7, σ = [some (.ref a), some (.ref b), some (.int ((xs.length + ys.length : Nat) : Int)), some (.ref l), some (.int (i : Nat)), some (.int x), v6, v7] ∧ H' l = some (.lst (iz zs)) ∧ Same H H' ∧ Is zs (xs.length + ys.length) (fun k => cf (xs.take i) ys k + if i ≤ k ∧ k < i + j then x * ys.getD (k - i) 0 else 0))
        ⟨zs, v6, v7, rfl, by rw [upd_ne hlT]; exact hz, s2, ⟨I.len, fun k => by rw [I.get, if_neg (by omega)]; omega⟩⟩ (fun i σ H' _ ⟨_, _, _, _, _, s1, _⟩ => s1.tup hb) ?_ ?_⟩
      · rintro j v σ H1 H2 hj ⟨zs, v6, v7, rfl, hz, s1, I⟩ ⟨T, x', y', rfl, hT, rfl, ex, ey⟩
        obtain ⟨y, hy, rfl⟩ := of_iz_get ey
        cases ex
        rw [iz_len] at hj
        have hlT : l ≠ T := ne_of_none hz hT
        have hil : i + j < zs.length := by rw [I.len]; omega
        have hzi : zs[i + j]? = some zs[i + j] := List.getElem?_eq_getElem hil
        have hzl : (upd H1 T (.tup [.int (j : Nat), .int y])) l = some (.lst (iz zs)) := by rw [upd_ne hlT]; exact hz
        refine ⟨T, _, rfl, .of upd_same, rfl, _, _, rfl, _, _, rfl, rfl, ?_⟩
        refine ⟨_, rfl, _, rfl, _, rfl, _, _, rfl, rfl, l, iz zs, _, _, rfl, rfl, .of hzl, at_of (j := i + j) (by omega) (iz_get hzi), _, rfl, _, rfl, _, _, rfl, rfl, hC x (List.mem_of_getElem? hx) y (List.mem_of_getElem? hy), _, _, rfl, rfl, _, rfl, _, rfl, _, rfl, _, _, rfl, rfl, l, iz zs, _, i + j, rfl, rfl, hzl, ?_, ?_⟩
        · have e : (i : Int) + (j : Int) = ((i + j : Nat) : Int) := by omega
          rw [e]
          exact ixN_nat (by rw [iz_len]; exact hil)
        rw [iz_set]
        refine ⟨_, _, _, rfl, upd_same, (s1.upN hT).upd0 hl0, I.set (d := zs[i + j] + x * y) (by omega) fun k => ?_⟩
        have hzg : zs[i + j] = cf (xs.take i) ys (i + j) := by
          have := I.get (i + j)
          rw [getD_some hzi, if_neg (by omega)] at this
          omega
        by_cases e : k = i + j
        · subst e
          have e2 : i + j - i = j := by omega
          rw [if_pos rfl, hzg, if_pos (by omega), e2, getD_some hy]
        · rw [if_neg e]
          by_cases h1 : i ≤ k ∧ k < i + j
          · rw [if_pos h1, if_pos (by omega)]
          · rw [if_neg h1, if_neg (by omega)]
      · rintro σ H1 ⟨zs, v6, v7, rfl, hz, s1, I⟩
        refine ⟨zs, _, _, v6, v7, rfl, hz, s1, ⟨I.len, fun k => ?_⟩⟩
        rw [I.get, cf_take hx, iz_len]
        by_cases h1 : i ≤ k ∧ k < i + ys.length
        · rw [if_pos h1, if_pos h1.1]
        · rw [if_neg h1]
          by_cases h2 : i ≤ k
          · rw [if_pos h2, getD_of_ge (by omega)]; simp
          · rw [if_neg h2]
    · rintro σ H1 ⟨zs, v4, v5, v6, v7, rfl, hz, s1, I⟩
      have ez : zs = mulL xs ys := I.eq (len_mulL xs ys) fun k => by rw [get_mulL, iz_len, List.take_length]
      subst ez
      refine ⟨_, rfl, l, _, rfl, .inl ⟨.of hz, fun p hp => ?_⟩⟩
      exact k p _ (s1.upN hp) upd_same
/-- one tuple of ints goes in, a new tuple comes out -/
def sp1 (K : PySem.W.Frag) (g : List Int → List Int) : Sp := fun vs H Q _ => ∃ (a : Addr) (xs : List Int), vs = [.ref a] ∧ SqT K H a (iz xs) ∧ xs.length ≤ 500 ∧
  ∀ (p : Addr) (H' : Hp), Same H H' → H' p = some (.tup (iz (g xs))) → Q (.ref p) H'
theorem ok_negative {f : Addr} {fd : FuncData} (F : Fun K "_negative" "_negative" S_negative f fd) (B : Bn mg) : FnOk P w K mg base CX0 1 f fd ["parts"] (sp1 K negL) := by
  refine F.ok sc_negative (fun vs H Q E h => ?_) (fun cdv A outer s H vs Q E hr h => ?_)
  · obtain ⟨a, xs, rfl, _⟩ := h; rfl
  · obtain ⟨a, xs, rfl, ha, hl, k⟩ := h
    refine ⟨_, pss_one (ps_ret (pe_callTy call_tuple_of (by rfl) B.tuple (by decide +kernel) (pa_cons
      (pe_lc (own := [("part", 1)]) (g := gName 1) (by rfl) sc_negative.nd (pi_tup (pv 0)) (blkOk_by (own := [("part", 1)]) (N := ["parts", "part"]) (sc := defScope S_negative) (by decide +kernel)) (fun _ _ _ _ _ => pg_name (i := 1) sc_negative.nd rfl (Or.inl rfl)) (fun _ _ _ _ _ => pts_nil) (fun _ _ _ _ _ => pe_un un_neg (pv 1))) pa_nil))), ?_⟩
    refine ⟨_, rfl, a, rfl, ⟨_, ha⟩, fun D hD => lc_it (walk_tup (xs := iz xs)) (fun i H' => H' D = some (.lst (iz (negL (xs.take i)))) ∧ Same H H') ⟨upd_same, Same.new hD⟩ (fun i H' _ ⟨_, s1⟩ => s1.tup ha) ?_ ?_⟩
    · rintro i v H1 H2 hi ⟨hd, s1⟩ ⟨rfl, hv⟩
      obtain ⟨x, hx, rfl⟩ := of_iz_get hv
      rw [iz_len] at hi
      refine ⟨rfl, ?_⟩
      refine ⟨_, rfl, _, rfl, _, hd, by rw [iz_len]; show _ < _; simp [negL]; exact Nat.lt_of_le_of_lt (Nat.min_le_right _ _) (small1000 (by omega)), ?_, s1.upd0 hD⟩
      rw [upd_same, List.take_add_one, hx]
      simp [negL, iz]
    · rintro H1 ⟨hd, s1⟩
      rw [iz_len, List.take_length] at hd
      refine ⟨D, _, rfl, .inl ⟨.of hd, fun p hp => ?_⟩⟩
      exact k p _ (s1.upN hp) upd_same
end
/-- a Size stands at p -/
def SzAt (K : PySem.W.Frag) (C : Addr) (H : Hp) (p : Addr) (xs : List Int) : Prop := ∃ dx t, H p = some (.ins C dx [("_parts", .ref t)]) ∧ SqT K H t (iz xs)
theorem SzAt.same {K : PySem.W.Frag} {C : Addr} {H H' : Hp} {p : Addr} {xs : List Int} (h : SzAt K C H p xs) (e : Same H H') : SzAt K C H' p xs := by
  obtain ⟨dx, t, h1, h2⟩ := h
  exact ⟨dx, t, e _ _ h1, e.tup h2⟩
/-- what may stand on the right: a Size, an int -/
def Opd (K : PySem.W.Frag) (C : Addr) (H : Hp) (y : V) (ys : List Int) : Prop := (∃ b, y = .ref b ∧ SzAt K C H b ys) ∨ ∃ i, y = .int i ∧ ys = [i]
theorem Opd.same {K : PySem.W.Frag} {C : Addr} {H H' : Hp} {y : V} {ys : List Int} (h : Opd K C H y ys) (e : Same H H') : Opd K C H' y ys := by
  rcases h with ⟨b, h1, h2⟩ | h
  · exact .inl ⟨b, h1, h2.same e⟩
  · exact .inr h
/-- what the class's own objects say -/
structure SzC (K : PySem.W.Frag) (mg : Str → Option Value) (C fT fS fP fN fI fO fA : Addr) : Prop where
  kit : InsKit K C
  nP : NoAttr K C "_parts"
  isC : PySem.W.isClsIn K C = true
  tyC : PySem.W.typeIn K (.ref C) = some (.type "type")
  intC : PySem.W.subIn K (.type "int") (.ref C) = some false
  mgC : mg "Size" = some (.ref C)
  gT : mg "_trimmed" = some (.ref fT)
  gS : mg "_sum" = some (.ref fS)
  gP : mg "_product" = some (.ref fP)
  gN : mg "_negative" = some (.ref fN)
  gI : mg "is_integer" = some (.ref fI)
  gO : mg "_is_operand" = some (.ref fO)
  gA : mg "_parts_of" = some (.ref fA)
/-- __init__ -/
def spInit (K : PySem.W.Frag) (C : Addr) : Sp := fun vs H Q _ => ∃ (p dx a : Addr) (xs : List Int), vs = [.ref p, .ref a] ∧ H p = some (.ins C dx []) ∧ SqT K H a (iz xs) ∧ xs.length ≤ 1000 ∧
  ∀ H' : Hp, (∀ b o, H b = some o → b ≠ p → H' b = some o) → SzAt K C H' p (trim xs) → Q .non H'
section
variable {P : Program} {w : World} {K : PySem.W.Frag} {mg : Str → Option Value} {base : Heap} {C fT fS fP fN fI fO fA : Addr} {fdT fdS fdP fdN fdI fdO fdA : FuncData}
theorem ok_init {f : Addr} {fd : FuncData} {dvs : List V} (F : FunD K "__init__" "Size.__init__" (defArgs S_Size___init__) (defBody S_Size___init__) (defScope S_Size___init__) dvs [] f fd) (Z : SzC K mg C fT fS fP fN fI fO fA) (FT : Fun K "_trimmed" "_trimmed" S_trimmed fT fdT) (bT : Binds K fdT ["parts"] []) (B : Bn mg) :
    FnOk P w K mg base CX0 2 f fd ["self", "parts"] (spInit K C) := by
  have GT : FnOk P w K mg base CX0 1 fT fdT ["parts"] (spTrim K) := ok_trimmed FT B
  refine F.ok sc_Size___init__ (fun vs H Q E h => ?_) (fun cdv A outer s H vs Q E hr h => ?_)
  · obtain ⟨p, dx, a, xs, rfl, _⟩ := h; rfl
  · obtain ⟨p, dx, a, xs, rfl, hp, ha, hl, k⟩ := h
    refine ⟨_, PSs.nox (pss_one (ps_fld (pv 0) (pe_call GT hr (by rfl) Z.gT FT.kp bT .nil pass0 (pa_cons (pv 1) pa_nil)) rfl)), ?_⟩
    refine ⟨_, rfl, a, xs, rfl, ha, hl, fun t H1 s1 ht => ?_⟩
    have hp1 := s1 _ _ hp
    refine ⟨_, rfl, p, C, dx, [], rfl, hp1, Z.kit.cl, Z.nP, (by show 0 < 1000; decide), ?_⟩
    refine k _ (fun b o hb hne => by rw [upd_ne hne]; exact s1 _ _ hb) ⟨dx, t, upd_same, ?_⟩
    exact SqT.updIns ht hp1
end
/-! ### the class Size -/
def spIsInt : Sp := fun vs H Q _ => ∃ i, vs = [.int i] ∧ Q (.bl true) H
def spIsOp (K : PySem.W.Frag) (C : Addr) : Sp := fun vs H Q _ => ∃ y ys, vs = [y] ∧ Opd K C H y ys ∧ Q (.bl true) H
def spPartsOf (K : PySem.W.Frag) (C : Addr) : Sp := fun vs H Q _ => ∃ y ys, vs = [y] ∧ Opd K C H y ys ∧ ∀ t H', Same H H' → SqT K H' t (iz ys) → Q (.ref t) H'
def spGet (K : PySem.W.Frag) (C : Addr) : Sp := fun vs H Q _ => ∃ a xs, vs = [.ref a] ∧ SzAt K C H a xs ∧ ∀ t, SqT K H t (iz xs) → Q (.ref t) H
def spDeg (K : PySem.W.Frag) (C : Addr) : Sp := fun vs H Q _ => ∃ a xs, vs = [.ref a] ∧ SzAt K C H a xs ∧ Q (.int ((xs.length - 1 : Nat) : Int)) H
def spBin (K : PySem.W.Frag) (C : Addr) (g : List Int → List Int → List Int) (Cn : List Int → List Int → Prop) : Sp := fun vs H Q _ => ∃ a y xs ys, vs = [.ref a, y] ∧ SzAt K C H a xs ∧ Opd K C H y ys ∧ xs.length ≤ 400 ∧ ys.length ≤ 400 ∧ Cn xs ys ∧
  ∀ p H', Same H H' → SzAt K C H' p (trim (g xs ys)) → Q (.ref p) H'
def spNeg (K : PySem.W.Frag) (C : Addr) : Sp := fun vs H Q _ => ∃ a xs, vs = [.ref a] ∧ SzAt K C H a xs ∧ xs.length ≤ 400 ∧ ∀ p H', Same H H' → SzAt K C H' p (trim (negL xs)) → Q (.ref p) H'
/-- ==: a Size, or a value of another kind -/
def spEqv (K : PySem.W.Frag) (C : Addr) : Sp := fun vs H Q _ => ∃ a y xs, vs = [.ref a, y] ∧ SzAt K C H a xs ∧
  ((∃ b ys, y = .ref b ∧ SzAt K C H b ys ∧ Q (.bl (decide (xs = ys))) H) ∨ (∃ t, TyX K H y t ∧ (t == .ref C) = false ∧ PySem.W.subIn K t (.ref C) = some false ∧ Q (.bl false) H))
abbrev CnAny : List Int → List Int → Prop := fun _ _ => True
abbrev CnMul : List Int → List Int → Prop := fun xs ys => ∀ x ∈ xs, ∀ y ∈ ys, CMulW x y
section
variable {P : Program} {w : World} {K : PySem.W.Frag} {mg : Str → Option Value} {base : Heap} {C fT fS fP fN fI fO fA : Addr} {fdT fdS fdP fdN fdI fdO fdA : FuncData}
theorem ok_is_integer {f : Addr} {fd : FuncData} (F : Fun K "is_integer" "is_integer" S_is_integer f fd) (B : Bn mg) : FnOk P w K mg base CX0 1 f fd ["value"] spIsInt := by
  refine F.ok sc_is_integer (fun vs H Q E h => ?_) (fun cdv A outer s H vs Q E hr h => ?_)
  · obtain ⟨i, rfl, _⟩ := h; rfl
  · obtain ⟨i, rfl, k⟩ := h
    refine ⟨_, pss_one (ps_ret (pe_and (pe_callB call_isi (by rfl) B.isinstance (by decide +kernel) (pa_cons (pv 0) (pa_cons (pe_bltn (by rfl) B.int (u := .type "int") (v := .ty "int") (by decide +kernel) rfl) pa_nil)))
      (pe_one (pe_not (pe_callB call_isi (by rfl) B.isinstance (by decide +kernel) (pa_cons (pv 0) (pa_cons (pe_bltn (by rfl) B.bool (u := .type "bool") (v := .ty "bool") (by decide +kernel) rfl) pa_nil))))))), ?_⟩
    refine ⟨_, rfl, _, _, _, _, true, rfl, .ty _, .base (.int i), kit_ty (by decide +kernel), true, rfl, ?_⟩
    refine iteT ?_
    exact ⟨_, rfl, _, _, _, _, false, rfl, .ty _, .base (.int i), kit_ty (by decide +kernel), false, rfl, k⟩
theorem ok_is_operand {f : Addr} {fd : FuncData} (F : Fun K "_is_operand" "_is_operand" S_is_operand f fd) (Z : SzC K mg C fT fS fP fN fI fO fA) (FI : Fun K "is_integer" "is_integer" S_is_integer fI fdI) (bI : Binds K fdI ["value"] []) (B : Bn mg) :
    FnOk P w K mg base CX0 2 f fd ["value"] (spIsOp K C) := by
  have GI : FnOk P w K mg base CX0 1 fI fdI ["value"] spIsInt := ok_is_integer FI B
  refine F.ok sc_is_operand (fun vs H Q E h => ?_) (fun cdv A outer s H vs Q E hr h => ?_)
  · obtain ⟨y, ys, rfl, _⟩ := h; rfl
  · obtain ⟨y, ys, rfl, hy, k⟩ := h
    refine ⟨_, pss_one (ps_ret (pe_or (pe_callB call_isi (by rfl) B.isinstance (by decide +kernel) (pa_cons (pv 0) (pa_cons (pe_glob (by rfl) Z.mgC (v := .ref C) rfl) pa_nil)))
      (pe_one (pe_call GI hr (by rfl) Z.gI FI.kp bI .nil pass0 (pa_cons (pv 0) pa_nil))))), ?_⟩
    rcases hy with ⟨b, rfl, dx, t, hb, ht⟩ | ⟨i, rfl, rfl⟩
    · refine ⟨_, rfl, _, _, _, _, true, rfl, .own C, Z.kit.ty hb, kit_self (by simp), true, rfl, ?_⟩
      exact iteT k
    · refine ⟨_, rfl, _, _, _, _, false, rfl, .own C, .base (.int i), kit_cls_ref Z.isC Z.tyC (by rfl) Z.intC, false, rfl, ?_⟩
      refine iteF ?_
      exact ⟨_, rfl, i, rfl, k⟩
theorem ok_coefficients {f : Addr} {fd : FuncData} (F : Fun K "coefficients" "Size.coefficients" S_Size_coefficients f fd) (Z : SzC K mg C fT fS fP fN fI fO fA) : FnOk P w K mg base CX0 1 f fd ["self"] (spGet K C) := by
  refine F.ok sc_Size_coefficients (fun vs H Q E h => ?_) (fun cdv A outer s H vs Q E hr h => ?_)
  · obtain ⟨a, xs, rfl, _⟩ := h; rfl
  · obtain ⟨a, xs, rfl, ⟨dx, t, ha, ht⟩, k⟩ := h
    refine ⟨_, pss_one (ps_ret (pe_fld (pv 0) rfl)), ?_⟩
    exact ⟨_, rfl, a, C, dx, _, _, rfl, ha, Z.kit.cl, Z.nP, rfl, k t ht⟩
theorem ok_degree {f : Addr} {fd : FuncData} (F : Fun K "degree" "Size.degree" S_Size_degree f fd) (Z : SzC K mg C fT fS fP fN fI fO fA) (B : Bn mg) : FnOk P w K mg base CX0 1 f fd ["self"] (spDeg K C) := by
  refine F.ok sc_Size_degree (fun vs H Q E h => ?_) (fun cdv A outer s H vs Q E hr h => ?_)
  · obtain ⟨a, xs, rfl, _⟩ := h; rfl
  · obtain ⟨a, xs, rfl, ⟨dx, t, ha, ht⟩, k⟩ := h
    refine ⟨_, pss_one (ps_ret (pe_callB (call_max2 rfl) (by rfl) B.max (by decide +kernel) (pa_cons pe_int (pa_cons (pe_op op_sub (pe_callB call_len_seq (by rfl) B.len PySem.boot_len (pa_cons (pe_fld (pv 0) rfl) pa_nil)) pe_int) pa_nil)))), ?_⟩
    refine ⟨_, rfl, a, C, dx, _, _, rfl, ha, Z.kit.cl, Z.nP, rfl, t, iz xs, rfl, .inr ht, _, _, rfl, rfl, _, _, rfl, ?_⟩
    rw [iz_len]
    have e : (if (xs.length : Int) - 1 > 0 then (xs.length : Int) - 1 else 0) = ((xs.length - 1 : Nat) : Int) := by split <;> omega
    rw [e]
    exact k
theorem ok_parts_of {f : Addr} {fd : FuncData} (F : Fun K "_parts_of" "_parts_of" S_parts_of f fd) (Z : SzC K mg C fT fS fP fN fI fO fA) {p g : Addr} {fdG : FuncData} (hp : PropOf K C "coefficients" p g) (FG : Fun K "coefficients" "Size.coefficients" S_Size_coefficients g fdG) (bG : Binds K fdG ["self"] []) (B : Bn mg) :
    FnOk P w K mg base CX0 3 f fd ["operand"] (spPartsOf K C) := by
  have GG : FnOk P w K mg base CX0 1 g fdG ["self"] (spGet K C) := ok_coefficients FG Z
  refine F.ok sc_parts_of (fun vs H Q E h => ?_) (fun cdv A outer s H vs Q E hr h => ?_)
  · obtain ⟨y, ys, rfl, _⟩ := h; rfl
  · obtain ⟨y, ys, rfl, hy, k⟩ := h
    refine ⟨_, pss_cons (ps_if (pt_val (pe_callB call_isi (by rfl) B.isinstance (by decide +kernel) (pa_cons (pv 0) (pa_cons (pe_glob (by rfl) Z.mgC (v := .ref C) rfl) pa_nil))))
        (pss_one (ps_ret (pe_prop (pv 0) Z.kit.cl hp GG hr bG .nil pass0 rfl))) pss_nil)
      (pss_one (ps_ret (pe_tup (pa_cons (pv 0) pa_nil)))), ?_⟩
    rcases hy with ⟨b, rfl, hz⟩ | ⟨i, rfl, rfl⟩
    · obtain ⟨dx, t, hb, ht⟩ := id hz
      refine ⟨_, rfl, _, _, _, _, true, rfl, .own C, Z.kit.ty hb, kit_self (by simp), true, rfl, ?_⟩
      refine iteT ?_
      exact ⟨_, rfl, b, dx, _, rfl, hb, b, ys, rfl, hz, fun t ht => k t H (Same.refl _) ht⟩
    · refine ⟨_, rfl, _, _, _, _, false, rfl, .own C, .base (.int i), kit_cls_ref Z.isC Z.tyC (by rfl) Z.intC, false, rfl, ?_⟩
      refine iteF ?_
      exact ⟨_, rfl, by show 1 ≤ sizeLine; decide, fun p hp => k p _ (Same.new hp) (.of upd_same)⟩
theorem ok_eq {f : Addr} {fd : FuncData} (F : Fun K "__eq__" "Size.__eq__" S_Size___eq__ f fd) (Z : SzC K mg C fT fS fP fN fI fO fA) (B : Bn mg) : FnOk P w K mg base CX0 1 f fd ["self", "other"] (spEqv K C) := by
  refine F.ok sc_Size___eq__ (fun vs H Q E h => ?_) (fun cdv A outer s H vs Q E hr h => ?_)
  · obtain ⟨a, y, xs, rfl, _⟩ := h; rfl
  · obtain ⟨a, y, xs, rfl, ⟨dx, t, ha, ht⟩, k⟩ := h
    refine ⟨_, pss_one (ps_ret (pe_and (pe_callB call_isi (by rfl) B.isinstance (by decide +kernel) (pa_cons (pv 1) (pa_cons (pe_glob (by rfl) Z.mgC (v := .ref C) rfl) pa_nil)))
      (pe_one (pe_cmpR (op_eqD hr.units) (pe_fld (pv 0) rfl) (pe_fld (pv 1) rfl) (nomark _))))), ?_⟩
    rcases k with ⟨b, ys, rfl, ⟨dy, u, hb, hu⟩, k⟩ | ⟨ty, hty, hne, hsub, k⟩
    · refine ⟨_, rfl, _, _, _, _, true, rfl, .own C, Z.kit.ty hb, kit_self (by simp), true, rfl, ?_⟩
      refine iteT ?_
      refine ⟨_, rfl, a, C, dx, _, _, rfl, ha, Z.kit.cl, Z.nP, rfl, _, rfl, b, C, dy, _, _, rfl, hb, Z.kit.cl, Z.nP, rfl, dI xs, dI ys, dp_ints ht, dp_ints hu, shaped_ints xs, shaped_ints ys, ?_⟩
      rw [eqv_ints]
      exact k
    · refine ⟨_, rfl, _, _, _, _, false, rfl, .own C, hty, kit_cls_ref Z.isC Z.tyC hne hsub, false, rfl, ?_⟩
      exact iteF k
end
/-- the class with its defs, as the top has made it -/
structure SzDefs (K : PySem.W.Frag) (mg : Str → Option Value) (C fT fS fP fN fI fO fA fM : Addr) (fdT fdS fdP fdN fdI fdO fdA fdM fdG : FuncData) (pc g : Addr) (dvs : List V) (ds : List Value) : Prop where
  Z : SzC K mg C fT fS fP fN fI fO fA
  B : Bn mg
  T : Fun K "_trimmed" "_trimmed" S_trimmed fT fdT
  bT : Binds K fdT ["parts"] []
  S : Fun K "_sum" "_sum" S_sum fS fdS
  bS : Binds K fdS ["one", "other"] []
  P : Fun K "_product" "_product" S_product fP fdP
  bP : Binds K fdP ["one", "other"] []
  N : Fun K "_negative" "_negative" S_negative fN fdN
  bN : Binds K fdN ["parts"] []
  I : Fun K "is_integer" "is_integer" S_is_integer fI fdI
  bI : Binds K fdI ["value"] []
  O : Fun K "_is_operand" "_is_operand" S_is_operand fO fdO
  bO : Binds K fdO ["value"] []
  A : Fun K "_parts_of" "_parts_of" S_parts_of fA fdA
  bA : Binds K fdA ["operand"] []
  M : Mk K C fM
  FM : FunD K "__init__" "Size.__init__" (defArgs S_Size___init__) (defBody S_Size___init__) (defScope S_Size___init__) dvs [] fM fdM
  bM : Binds K fdM ["self", "parts"] []
  bM0 : Binds K fdM ["self", "parts"] ds
  hd : Vals dvs ds
  dv : ∃ t0, dvs = [.ref t0] ∧ ∀ H, SqT K H t0 []
  pc : PropOf K C "coefficients" pc g
  G : Fun K "coefficients" "Size.coefficients" S_Size_coefficients g fdG
  bG : Binds K fdG ["self"] []
section
variable {P : Program} {w : World} {K : PySem.W.Frag} {mg : Str → Option Value} {base : Heap} {C fT fS fP fN fI fO fA fM : Addr} {fdT fdS fdP fdN fdI fdO fdA fdM fdG : FuncData} {pc g : Addr} {dvs : List V} {ds : List Value}
theorem SzDefs.okI (D : SzDefs K mg C fT fS fP fN fI fO fA fM fdT fdS fdP fdN fdI fdO fdA fdM fdG pc g dvs ds) : FnOk P w K mg base CX0 2 fM fdM ["self", "parts"] (spInit K C) := ok_init D.FM D.Z D.T D.bT D.B
theorem SzDefs.okA (D : SzDefs K mg C fT fS fP fN fI fO fA fM fdT fdS fdP fdN fdI fdO fdA fdM fdG pc g dvs ds) : FnOk P w K mg base CX0 3 fA fdA ["operand"] (spPartsOf K C) := ok_parts_of D.A D.Z D.pc D.G D.bG D.B
theorem SzDefs.okO (D : SzDefs K mg C fT fS fP fN fI fO fA fM fdT fdS fdP fdN fdI fdO fdA fdM fdG pc g dvs ds) : FnOk P w K mg base CX0 2 fO fdO ["value"] (spIsOp K C) := ok_is_operand D.O D.Z D.I D.bI D.B
/-- a new Size, behind its __init__ -/
theorem made {H H1 H2 : Hp} {C x dx a : Addr} {xs : List Int} {K : PySem.W.Frag} (nx : H x = none) (nd : H dx = none) (ne : dx ≠ x) (k : ∀ b o, (upd (upd H dx (.own x)) x (.ins C dx [])) b = some o → b ≠ x → H2 b = some o) : Same H H2 := Same.made nx nd k
theorem upd2_tup {K : PySem.W.Frag} {H : Hp} {x dx a C : Addr} {xs : List V} (h : SqT K H a xs) (nx : H x = none) (nd : H dx = none) (ne : dx ≠ x) : SqT K (upd (upd H dx (.own x)) x (.ins C dx [])) a xs :=
  ((Same.new nd).upN (by rw [upd_ne ne.symm]; exact nx)).tup h
/-- + and -, by the sum of the parts -/
theorem ok_add {f : Addr} {fd : FuncData} (F : Fun K "__add__" "Size.__add__" S_Size___add__ f fd) (D : SzDefs K mg C fT fS fP fN fI fO fA fM fdT fdS fdP fdN fdI fdO fdA fdM fdG pc g dvs ds) : FnOk P w K mg base CX0 4 f fd ["self", "other"] (spBin K C sumL CnAny) := by
  have GS : FnOk P w K mg base CX0 1 fS fdS ["one", "other"] (sp2 K sumL fun _ _ => True) := ok_sum D.S D.B
  refine F.ok sc_Size___add__ (fun vs H Q E h => ?_) (fun cdv A outer s H vs Q E hr h => ?_)
  · obtain ⟨a, y, xs, ys, rfl, _⟩ := h; rfl
  · obtain ⟨a, y, xs, ys, rfl, hz, hy, hxl, hyl, _, k⟩ := h
    obtain ⟨dx, t, ha, ht⟩ := id hz
    refine ⟨_, pss_cons (ps_if (pt_not (pt_val (pe_call D.okO (hr.mono (by decide)) (by rfl) D.Z.gO D.O.kp D.bO .nil pass0 (pa_cons (pv 1) pa_nil)))) pss_never pss_nil)
      (pss_one (ps_ret (pe_make D.M D.okI hr (by rfl) D.Z.mgC D.bM .nil pass0 (pa_cons (pe_call GS (hr.mono (by decide)) (by rfl) D.Z.gS D.S.kp D.bS .nil pass0
        (pa_cons (pe_fld (pv 0) rfl) (pa_cons (pe_call D.okA hr (by rfl) D.Z.gA D.A.kp D.bA .nil pass0 (pa_cons (pv 1) pa_nil)) pa_nil))) pa_nil)))), ?_⟩
    refine ⟨_, rfl, y, ys, rfl, hy, true, rfl, ?_⟩
    refine iteF ?_
    refine ⟨_, rfl, a, C, dx, _, _, rfl, ha, D.Z.kit.cl, D.Z.nP, rfl, _, rfl, y, ys, rfl, hy, fun u H1 s1 hu => ?_⟩
    refine ⟨t, u, xs, ys, rfl, s1.tup ht, hu, by omega, by omega, trivial, fun p H2 s2 hp => ?_⟩
    intro x dx' nx nd ne
    refine ⟨x, dx', p, sumL xs ys, rfl, upd_same, upd2_tup (.of hp) nx nd ne, by rw [len_sumL]; omega, fun H3 s3 h3 => ⟨rfl, ?_⟩⟩
    exact k x H3 ((s1.trans s2).trans (Same.made nx nd s3)) h3
end
section
variable {P : Program} {w : World} {K : PySem.W.Frag} {mg : Str → Option Value} {base : Heap} {C fT fS fP fN fI fO fA fM : Addr} {fdT fdS fdP fdN fdI fdO fdA fdM fdG : FuncData} {pc g : Addr} {dvs : List V} {ds : List Value}
theorem ok_sub {f : Addr} {fd : FuncData} (F : Fun K "__sub__" "Size.__sub__" S_Size___sub__ f fd) (D : SzDefs K mg C fT fS fP fN fI fO fA fM fdT fdS fdP fdN fdI fdO fdA fdM fdG pc g dvs ds) : FnOk P w K mg base CX0 4 f fd ["self", "other"] (spBin K C (fun xs ys => sumL xs (negL ys)) CnAny) := by
  have GS : FnOk P w K mg base CX0 1 fS fdS ["one", "other"] (sp2 K sumL fun _ _ => True) := ok_sum D.S D.B
  have GN : FnOk P w K mg base CX0 1 fN fdN ["parts"] (sp1 K negL) := ok_negative D.N D.B
  refine F.ok sc_Size___sub__ (fun vs H Q E h => ?_) (fun cdv A outer s H vs Q E hr h => ?_)
  · obtain ⟨a, y, xs, ys, rfl, _⟩ := h; rfl
  · obtain ⟨a, y, xs, ys, rfl, hz, hy, hxl, hyl, _, k⟩ := h
    obtain ⟨dx, t, ha, ht⟩ := id hz
    refine ⟨_, pss_cons (ps_if (pt_not (pt_val (pe_call D.okO (hr.mono (by decide)) (by rfl) D.Z.gO D.O.kp D.bO .nil pass0 (pa_cons (pv 1) pa_nil)))) pss_never pss_nil)
      (pss_one (ps_ret (pe_make D.M D.okI hr (by rfl) D.Z.mgC D.bM .nil pass0 (pa_cons (pe_call GS (hr.mono (by decide)) (by rfl) D.Z.gS D.S.kp D.bS .nil pass0
        (pa_cons (pe_fld (pv 0) rfl) (pa_cons (pe_call GN (hr.mono (by decide)) (by rfl) D.Z.gN D.N.kp D.bN .nil pass0 (pa_cons (pe_call D.okA hr (by rfl) D.Z.gA D.A.kp D.bA .nil pass0 (pa_cons (pv 1) pa_nil)) pa_nil)) pa_nil))) pa_nil)))), ?_⟩
    refine ⟨_, rfl, y, ys, rfl, hy, true, rfl, ?_⟩
    refine iteF ?_
    refine ⟨_, rfl, a, C, dx, _, _, rfl, ha, D.Z.kit.cl, D.Z.nP, rfl, _, rfl, y, ys, rfl, hy, fun u0 H0 s0 hu0 => ?_⟩
    refine ⟨u0, ys, rfl, hu0, by omega, fun u H1 s1' hu => ?_⟩
    have s1 := s0.trans s1'
    refine ⟨t, u, xs, negL ys, rfl, s1.tup ht, .of hu, by omega, by simp [negL]; omega, trivial, fun p H2 s2 hp => ?_⟩
    intro x dx' nx nd ne
    refine ⟨x, dx', p, sumL xs (negL ys), rfl, upd_same, upd2_tup (.of hp) nx nd ne, by rw [len_sumL]; simp [negL]; omega, fun H3 s3 h3 => ⟨rfl, ?_⟩⟩
    exact k x H3 ((s1.trans s2).trans (Same.made nx nd s3)) h3
theorem ok_mul {f : Addr} {fd : FuncData} (F : Fun K "__mul__" "Size.__mul__" S_Size___mul__ f fd) (D : SzDefs K mg C fT fS fP fN fI fO fA fM fdT fdS fdP fdN fdI fdO fdA fdM fdG pc g dvs ds) : FnOk P w K mg base CX0 4 f fd ["self", "other"] (spBin K C mulL CnMul) := by
  have GP : FnOk P w K mg base CX0 1 fP fdP ["one", "other"] (sp2 K mulL CnMul) := ok_product D.P D.B
  refine F.ok sc_Size___mul__ (fun vs H Q E h => ?_) (fun cdv A outer s H vs Q E hr h => ?_)
  · obtain ⟨a, y, xs, ys, rfl, _⟩ := h; rfl
  · obtain ⟨a, y, xs, ys, rfl, hz, hy, hxl, hyl, hC, k⟩ := h
    obtain ⟨dx, t, ha, ht⟩ := id hz
    refine ⟨_, pss_cons (ps_if (pt_not (pt_val (pe_call D.okO (hr.mono (by decide)) (by rfl) D.Z.gO D.O.kp D.bO .nil pass0 (pa_cons (pv 1) pa_nil)))) pss_never pss_nil)
      (pss_one (ps_ret (pe_make D.M D.okI hr (by rfl) D.Z.mgC D.bM .nil pass0 (pa_cons (pe_call GP (hr.mono (by decide)) (by rfl) D.Z.gP D.P.kp D.bP .nil pass0
        (pa_cons (pe_fld (pv 0) rfl) (pa_cons (pe_call D.okA hr (by rfl) D.Z.gA D.A.kp D.bA .nil pass0 (pa_cons (pv 1) pa_nil)) pa_nil))) pa_nil)))), ?_⟩
    refine ⟨_, rfl, y, ys, rfl, hy, true, rfl, ?_⟩
    refine iteF ?_
    refine ⟨_, rfl, a, C, dx, _, _, rfl, ha, D.Z.kit.cl, D.Z.nP, rfl, _, rfl, y, ys, rfl, hy, fun u H1 s1 hu => ?_⟩
    refine ⟨t, u, xs, ys, rfl, s1.tup ht, hu, by omega, by omega, hC, fun p H2 s2 hp => ?_⟩
    intro x dx' nx nd ne
    refine ⟨x, dx', p, mulL xs ys, rfl, upd_same, upd2_tup (.of hp) nx nd ne, by rw [len_mulL]; omega, fun H3 s3 h3 => ⟨rfl, ?_⟩⟩
    exact k x H3 ((s1.trans s2).trans (Same.made nx nd s3)) h3
theorem ok_neg {f : Addr} {fd : FuncData} (F : Fun K "__neg__" "Size.__neg__" S_Size___neg__ f fd) (D : SzDefs K mg C fT fS fP fN fI fO fA fM fdT fdS fdP fdN fdI fdO fdA fdM fdG pc g dvs ds) : FnOk P w K mg base CX0 4 f fd ["self"] (spNeg K C) := by
  have GN : FnOk P w K mg base CX0 1 fN fdN ["parts"] (sp1 K negL) := ok_negative D.N D.B
  refine F.ok sc_Size___neg__ (fun vs H Q E h => ?_) (fun cdv A outer s H vs Q E hr h => ?_)
  · obtain ⟨a, xs, rfl, _⟩ := h; rfl
  · obtain ⟨a, xs, rfl, hz, hxl, k⟩ := h
    obtain ⟨dx, t, ha, ht⟩ := id hz
    refine ⟨_, pss_one (ps_ret (pe_make D.M D.okI hr (by rfl) D.Z.mgC D.bM .nil pass0 (pa_cons (pe_call GN (hr.mono (by decide)) (by rfl) D.Z.gN D.N.kp D.bN .nil pass0 (pa_cons (pe_fld (pv 0) rfl) pa_nil)) pa_nil))), ?_⟩
    refine ⟨_, rfl, a, C, dx, _, _, rfl, ha, D.Z.kit.cl, D.Z.nP, rfl, t, xs, rfl, ht, by omega, fun p H2 s2 hp => ?_⟩
    intro x dx' nx nd ne
    refine ⟨x, dx', p, negL xs, rfl, upd_same, upd2_tup (.of hp) nx nd ne, by simp [negL]; omega, fun H3 s3 h3 => ⟨rfl, ?_⟩⟩
    exact k x H3 (s2.trans (Same.made nx nd s3)) h3
end
/-- what of the own operators the class says -/
structure SzOps (K : PySem.W.Frag) (C fadd fsub fmul fneg fcall feq : Addr) (da dsu dm dn dc de : FuncData) : Prop where
  add : BinOwn K C "add" fadd
  sub : BinOwn K C "sub" fsub
  mul : BinOwn K C "mul" fmul
  Fadd : Fun K "__add__" "Size.__add__" S_Size___add__ fadd da
  Fsub : Fun K "__sub__" "Size.__sub__" S_Size___sub__ fsub dsu
  Fmul : Fun K "__mul__" "Size.__mul__" S_Size___mul__ fmul dm
  Fneg : Fun K "__neg__" "Size.__neg__" S_Size___neg__ fneg dn
  Fcall : Fun K "__call__" "Size.__call__" S_Size___call__ fcall dc
  Feq : Fun K "__eq__" "Size.__eq__" S_Size___eq__ feq de
  badd : Binds K da ["self", "other"] []
  bsub : Binds K dsu ["self", "other"] []
  bmul : Binds K dm ["self", "other"] []
  bneg : Binds K dn ["self"] []
  bcall : Binds K dc ["self", "n"] []
  beq : Binds K de ["self", "other"] []
  neg : PySem.W.findIn K (.ref C) "__neg__" = some (some (.ref fneg))
  fneg : PySem.W.isFn K (.ref fneg) = true
  call : CallO K C fcall
  eq : PySem.W.findIn K (.ref C) "__eq__" = some (some (.ref feq))
  feq : PySem.W.isFn K (.ref feq) = true
  ne : PySem.W.findIn K (.ref C) "__ne__" = some (some (.builtin "object.__ne__"))
  tup : PySem.W.subIn K (.type "tuple") (.ref C) = some false
  str : PySem.W.subIn K (.type "str") (.ref C) = some false
/-- size(n): an int, a Size -/
def spCall (K : PySem.W.Frag) (C : Addr) : Sp := fun vs H Q _ => ∃ a y xs, vs = [.ref a, y] ∧ SzAt K C H a xs ∧ xs.length ≤ 20 ∧
  ((∃ i b m, y = .int i ∧ Bd b xs ∧ i.natAbs < 2 ^ m ∧ 0 < b ∧ 0 < m ∧ b + xs.length * (m + 1) + m ≤ 1000000 ∧ ∀ H', Same H H' → Q (.int (ev xs i)) H') ∨
   (∃ u ys b, y = .ref u ∧ SzAt K C H u ys ∧ ys.length ≤ 8 ∧ Bd b xs ∧ Bd b ys ∧ 0 < b ∧ b ≤ 2000 ∧ ∀ p H', Same H H' → SzAt K C H' p (cmp xs ys) → Q (.ref p) H'))
theorem ev_rev (xs : List Int) (n : Int) {i : Nat} {x : Int} (h : xs[xs.length - 1 - i]? = some x) (hi : i < xs.length) : ev (xs.drop (xs.length - (i + 1))) n = ev (xs.drop (xs.length - i)) n * n + x := by
  have e : xs.length - i = (xs.length - 1 - i) + 1 := by omega
  have e2 : xs.length - (i + 1) = xs.length - 1 - i := by omega
  rw [e, e2, List.drop_eq_getElem_cons (by omega : xs.length - 1 - i < xs.length)]
  have hx : xs[xs.length - 1 - i] = x := by
    have := List.getElem?_eq_getElem (show xs.length - 1 - i < xs.length by omega)
    rw [this] at h
    exact Option.some.inj h
  rw [hx, ev]
theorem cmp_rev (xs ys : List Int) {i : Nat} {x : Int} (h : xs[xs.length - 1 - i]? = some x) (hi : i < xs.length) : cmp (xs.drop (xs.length - (i + 1))) ys = trim (sumL (trim (mulL (cmp (xs.drop (xs.length - i)) ys) ys)) [x]) := by
  have e : xs.length - i = (xs.length - 1 - i) + 1 := by omega
  have e2 : xs.length - (i + 1) = xs.length - 1 - i := by omega
  rw [e, e2, List.drop_eq_getElem_cons (by omega : xs.length - 1 - i < xs.length)]
  have hx : xs[xs.length - 1 - i] = x := by
    have := List.getElem?_eq_getElem (show xs.length - 1 - i < xs.length by omega)
    rw [this] at h
    exact Option.some.inj h
  rw [hx, cmp]
theorem Bd.drop {b : Nat} {xs : List Int} (h : Bd b xs) (k : Nat) : Bd b (xs.drop k) := fun c hc => h c (List.mem_of_mem_drop hc)
theorem cmp_len : ∀ xs ys : List Int, (cmp xs ys).length ≤ xs.length * ys.length + 1
  | [], _ => Nat.zero_le _
  | c :: r, ys => by
    have ih := cmp_len r ys
    rw [cmp]
    refine Nat.le_trans (trim_len _) ?_
    rw [len_sumL]
    show max _ 1 ≤ (r.length + 1) * ys.length + 1
    rw [Nat.succ_mul]
    have := trim_len (mulL (cmp r ys) ys)
    rw [len_mulL] at this
    omega
theorem cmp_bd {b : Nat} (hb : 0 < b) : ∀ {xs ys : List Int}, xs.length ≤ 20 → ys.length ≤ 8 → Bd b xs → Bd b ys → Bd (b + xs.length * (b + 200)) (cmp xs ys)
  | [], _, _, _, _, _ => Bd.nil
  | c :: r, ys, hl, hy, h, g => by
    have hl' : r.length ≤ 20 := by rw [List.length_cons] at hl; omega
    have ih := cmp_bd hb hl' hy (fun d hd => h d (List.mem_cons_of_mem _ hd)) g
    rw [cmp]
    have h1 := Bd.trim (Bd.mulL ih g)
    have hlen : (cmp r ys).length ≤ 161 := by
      have := cmp_len r ys
      have : r.length * ys.length ≤ 20 * 8 := Nat.mul_le_mul hl' hy
      omega
    refine Bd.trim (Bd.mono (Bd.sumL (Bd.mono h1 (j := b + r.length * (b + 200) + b + (cmp r ys).length) (k := b + r.length * (b + 200) + b + 161) (by omega)) (Bd.mono (fun d hd => ?_) (j := b) (by omega))) ?_)
    · have : d = c := by simpa using hd
      rw [this]
      exact h c (List.mem_cons_self ..)
    · rw [List.length_cons, Nat.succ_mul]; omega
section
variable {P : Program} {w : World} {K : PySem.W.Frag} {mg : Str → Option Value} {base : Heap} {C fT fS fP fN fI fO fA fM : Addr} {fdT fdS fdP fdN fdI fdO fdA fdM fdG : FuncData} {pc g : Addr} {dvs : List V} {ds : List Value}
  {fadd fsub fmul fneg fcall feq : Addr} {da dsu dm dn dc de : FuncData}
theorem ok_call (D : SzDefs K mg C fT fS fP fN fI fO fA fM fdT fdS fdP fdN fdI fdO fdA fdM fdG pc g dvs ds) (O : SzOps K C fadd fsub fmul fneg fcall feq da dsu dm dn dc de) : FnOk P w K mg base CX0 5 fcall dc ["self", "n"] (spCall K C) := by
  have GA : FnOk P w K mg base CX0 4 fadd da ["self", "other"] (spBin K C sumL CnAny) := ok_add O.Fadd D
  have GM : FnOk P w K mg base CX0 4 fmul dm ["self", "other"] (spBin K C mulL CnMul) := ok_mul O.Fmul D
  refine O.Fcall.ok sc_Size___call__ (fun vs H Q E h => ?_) (fun cdv A outer s H vs Q E hr h => ?_)
  · obtain ⟨a, y, xs, rfl, _⟩ := h; rfl
  · obtain ⟨a, y, xs, rfl, hz, hxl, k⟩ := h
    obtain ⟨dx, t, ha, ht⟩ := id hz
    obtain ⟨t0, hdv, ht0⟩ := D.dv
    refine ⟨_, pss_cons (ps_set (i := 2) sc_Size___call__.nd rfl (Or.inl rfl) (pe_ifExp (pt_val (pe_callB call_isi (by rfl) D.B.isinstance (by decide +kernel) (pa_cons (pv 1) (pa_cons (pe_glob (by rfl) D.Z.mgC (v := .ref C) rfl) pa_nil))))
        (pe_make0 D.M D.okI (hr.mono (by decide)) (by rfl) D.Z.mgC D.bM0 D.hd pass0) pe_int))
      (pss_cons (ps_for PassesOwn.never rfl (pi_revA (by rfl) D.B.reversed (pe_fld (pv 0) rfl)) (pg_name (i := 3) sc_Size___call__.nd rfl (Or.inl rfl))
        (pss_one (ps_set (i := 2) sc_Size___call__.nd rfl (Or.inl rfl)
          (pe_op (op_add.or (op_own O.add GA hr O.badd pass0)) (pe_op (op_mulW.or (op_own O.mul GM hr O.bmul pass0)) (pv 2) (pv 1)) (pv 3)))))
      (pss_one (ps_ret (pv 2)))), ?_⟩
    rcases k with ⟨i, b, m, rfl, hb, hm, b0, m0, hbm, k⟩ | ⟨u, ys, b, rfl, hu, hyl, hb, hb2, b0, b1, k⟩
    · refine ⟨_, rfl, _, _, _, _, false, rfl, .own C, .base (.int i), kit_cls_ref D.Z.isC D.Z.tyC (by rfl) D.Z.intC, false, rfl, ?_⟩
      refine iteF ?_
      refine ⟨_, rfl, a, C, dx, _, _, rfl, ha, D.Z.kit.cl, D.Z.nP, rfl, t, iz xs, rfl, .inr ⟨ht, for_ItvT (xs := iz xs) (fun j σ H' => ∃ v3, σ = [some (.ref a), some (.int i), some (.int (ev (xs.drop (xs.length - j)) i)), v3] ∧ H' = H)
        ⟨none, by simp [ev]; rfl, rfl⟩ (fun j σ H' ⟨_, _, e⟩ => by rw [e]; exact ht) ?_ ?_⟩⟩
      · rintro j v σ H' hj hv ⟨v3, rfl, rfl⟩
        rw [iz_len] at hj hv
        obtain ⟨x, hx, rfl⟩ := of_iz_get hv
        have hd := Bd.drop hb (xs.length - j)
        have hl : (xs.drop (xs.length - j)).length ≤ xs.length := by rw [List.length_drop]; omega
        have hlt := ev_lt hd hm
        have hle : (xs.drop (xs.length - j)).length * (m + 1) ≤ xs.length * (m + 1) := Nat.mul_le_mul_right _ hl
        refine ⟨_, rfl, _, rfl, .inl ⟨_, _, rfl, rfl, wide_mul hlt hm (by omega) m0 (by omega), _, rfl, .inl ⟨_, _, rfl, rfl, ?_⟩⟩⟩
        refine ⟨some (.int x), ?_, rfl⟩
        rw [ev_rev xs i hx hj]
        rfl
      · rintro σ H' ⟨v3, rfl, rfl⟩
        rw [iz_len, Nat.sub_self, List.drop_zero]
        exact ⟨_, rfl, k _ (Same.refl _)⟩
    · obtain ⟨dy, tu, hu1, hu2⟩ := id hu
      refine ⟨_, rfl, _, _, _, _, true, rfl, .own C, D.Z.kit.ty hu1, kit_self (by simp), true, rfl, ?_⟩
      refine iteT ?_
      intro x dx' nx nd ne
      rw [hdv]
      refine ⟨x, dx', t0, [], rfl, upd_same, ht0 _, Nat.zero_le _, fun H3 s3 h3 => ⟨rfl, ?_⟩⟩
      have s0 : Same H H3 := Same.made nx nd s3
      refine ⟨_, rfl, a, C, dx, _, _, rfl, s0 _ _ ha, D.Z.kit.cl, D.Z.nP, rfl, t, iz xs, rfl, .inr ⟨s0.tup ht, for_ItvT (xs := iz xs) (fun j σ H' => ∃ v3 p, σ = [some (.ref a), some (.ref u), some (.ref p), v3] ∧ Same H H' ∧ SzAt K C H' p (cmp (xs.drop (xs.length - j)) ys))
        ⟨none, x, rfl, s0, by simpa [cmp, trim] using h3⟩ (fun j σ H' ⟨_, _, _, s1, _⟩ => s1.tup ht) ?_ ?_⟩⟩
      · rintro j v σ H' hj hv ⟨v3, p, rfl, s1, hp⟩
        rw [iz_len] at hj hv
        obtain ⟨z, hx, rfl⟩ := of_iz_get hv
        have hd := Bd.drop hb (xs.length - j)
        have hl : (xs.drop (xs.length - j)).length ≤ 20 := by rw [List.length_drop]; omega
        have hc := cmp_bd b0 hl hyl hd hb2
        have hcl := cmp_len (xs.drop (xs.length - j)) ys
        have hcm : (xs.drop (xs.length - j)).length * ys.length ≤ 20 * 8 := Nat.mul_le_mul hl hyl
        have hcb : (xs.drop (xs.length - j)).length * (b + 200) ≤ 20 * (b + 200) := Nat.mul_le_mul_right _ hl
        obtain ⟨dp, tp, hp1, hp2⟩ := id hp
        obtain ⟨du, tu', hu3, hu4⟩ := id (hu.same s1)
        refine ⟨_, rfl, _, rfl, .inr ⟨p, dp, _, rfl, hp1, .inl ⟨u, du, _, rfl, hu3⟩, p, .ref u, _, ys, rfl, hp, .inl ⟨u, rfl, hu.same s1⟩, by omega, by omega, fun c hc' d hd' => wide_mul (hc c hc') (hb2 d hd') (by omega) b0 (by omega), fun q H2 s2 hq => ?_⟩⟩
        obtain ⟨dq, tq, hq1, hq2⟩ := id hq
        refine ⟨_, rfl, .inr ⟨q, dq, _, rfl, hq1, .inr ⟨z, rfl⟩, q, .int z, _, [z], rfl, hq, .inr ⟨z, rfl, rfl⟩, ?_, by show 1 ≤ 400; decide, trivial, fun r H4 s4 hr4 => ?_⟩⟩
        · have := trim_len (mulL (cmp (xs.drop (xs.length - j)) ys) ys)
          rw [len_mulL] at this
          omega
        · refine ⟨some (.int z), r, rfl, (s1.trans s2).trans s4, ?_⟩
          rw [cmp_rev xs ys hx hj]
          exact hr4
      · rintro σ H' ⟨v3, p, rfl, s1, hp⟩
        rw [iz_len, Nat.sub_self, List.drop_zero] at hp
        exact ⟨_, rfl, k p H' s1 hp⟩
end
end K40

namespace K40
open PySem L2 SZ VR StX RT
/-! ### the draws -/
structure Bn2 (mg : Str → Option Value) : Prop where
  len : mg "len" = none
  int : mg "int" = none
  abs : mg "abs" = none
/-- a pool stands at a -/
def PoolAt (H : Hp) (a : Addr) : Prop := ∃ p q : Int, H a = some (.lst [.int p, .int q]) ∧ 0 ≤ p
theorem b01 (b : Bool) : -(2 ^ 64) < (if b = true then (1 : Int) else 0) ∧ (if b = true then (1 : Int) else 0) < 2 ^ 64 := by cases b <;> decide
theorem nn01 (c : Int) (b : Bool) : 0 ≤ (if c < 0 then -c else c) * (if b = true then (1 : Int) else 0) := by
  refine Int.mul_nonneg ?_ ?_
  · split <;> omega
  · cases b <;> decide
def spPool (K : PySem.W.Frag) : Sp := fun vs H Q _ => ∃ (a : Addr) (ns : List Int) (k : Nat), vs = [.ref a, .int k] ∧ SqL K H a (iz ns) ∧ k ≤ 63 ∧ ns.length ≤ 63 ∧ ∀ p H', H p = none → Same H H' → PoolAt H' p → Q (.ref p) H'
def spTake : Sp := fun vs H Q _ => ∃ (a : Addr) (wd : Int), vs = [.ref a, .int wd] ∧ PoolAt H a ∧ 0 < wd ∧ wd < 1073741824 ∧ ∀ (r : Int) (H' : Hp), 0 ≤ r → r < wd → PoolAt H' a → (∀ b o, H b = some o → b ≠ a → H' b = some o) → (∀ b, H b = none → H' b = none) → Q (.int r) H'
section
variable {P : Program} {w : World} {K : PySem.W.Frag} {mg : Str → Option Value} {base : Heap}
theorem ok_pool {f : Addr} {fd : FuncData} (F : Fun K "_law_pool" "_law_pool" S_law_pool f fd) (B : Bn2 mg) : FnOk P w K mg base CX0 1 f fd ["_law_script", "_law_k"] (spPool K) := by
  refine F.ok sc_law_pool (fun vs H Q E h => ?_) (fun cdv A outer s H vs Q E hr h => ?_)
  · obtain ⟨a, ns, k, rfl, _⟩ := h; rfl
  · obtain ⟨a, ns, k, rfl, ha, hk, hl, q⟩ := h
    refine ⟨_, pss_cons (ps_set (i := 2) sc_law_pool.nd rfl (Or.inl rfl) pe_int)
      (pss_cons (ps_if (pt_cmpR op_lt (pv 1) (pe_callB call_len_seq (by rfl) B.len PySem.boot_len (pa_cons (pv 0) pa_nil)) (nomark _)) (pss_one (ps_set (i := 2) sc_law_pool.nd rfl (Or.inl rfl) (pe_ix ix_list (pv 0) (pv 1) (fun _ _ => rfl)))) pss_nil)
      (pss_cons (ps_set (i := 3) sc_law_pool.nd rfl (Or.inl rfl) (pe_callB call_abs (by rfl) B.abs (by decide +kernel) (pa_cons (pv 2) pa_nil)))
      (pss_cons (ps_set (i := 4) sc_law_pool.nd rfl (Or.inl rfl) (pe_op op_mod (pe_op op_mul (pe_callTy call_int1 (by rfl) B.int (by decide +kernel) (pa_cons (pe_op op_add (pe_op op_mod (pe_callTy call_int1 (by rfl) B.int (by decide +kernel) (pa_cons (pv 2) pa_nil)) pe_int) (pe_op op_mul pe_int (pe_op op_add (pv 1) pe_int))) pa_nil)) (pe_op op_add (pv 1) pe_int)) pe_int))
      (pss_cons (ps_set (i := 5) sc_law_pool.nd rfl (Or.inl rfl) (pe_op op_mod (pe_op op_mul (pe_op op_mod (pe_callTy call_int1 (by rfl) B.int (by decide +kernel) (pa_cons (pe_op op_mul (pv 4) (pv 4)) pa_nil)) pe_int) pe_int) pe_int))
      (pss_one (ps_ret (pe_lst (pa_cons (pe_op op_mul (pv 3) (pe_callTy call_int1 (by rfl) B.int (by decide +kernel) (pa_cons (pe_cmpR op_ge (pv 3) (pe_op op_pow pe_int pe_int) (nomark _)) pa_nil))) (pa_cons (pv 5) pa_nil))))))))), ?_⟩
    refine ⟨_, rfl, _, rfl, a, iz ns, rfl, .inl ha, _, _, rfl, rfl, _, rfl, ?_⟩
    rw [iz_len]
    have m0 : (0 : Int) < 2147483629 := by decide
    have m1 : (0 : Int) < 2147483647 := by decide
    refine ite2 (fun h => ?_) (fun h => ?_)
    · have hlt : k < ns.length := by have := of_decide_eq_true h; omega
      have hx : ns[k]? = some ns[k] := List.getElem?_eq_getElem hlt
      refine ⟨_, rfl, _, rfl, a, iz ns, _, _, rfl, rfl, ha, at_of (j := k) rfl (iz_get hx), ?_⟩
      generalize ns[k] = c
      refine ⟨_, rfl, c, rfl, ?_⟩
      refine ⟨_, rfl, .inl ⟨_, rfl, _, _, rfl, rfl, m0, _, rfl, _, _, rfl, rfl, _, _, rfl, rfl, .inl ⟨by decide, by decide⟩, _, _, rfl, rfl, .inl ⟨_, rfl, _, rfl, _, _, rfl, rfl, _, _, rfl, rfl, .inr ⟨by omega, by omega⟩, _, _, rfl, rfl, m0, ?_⟩⟩⟩
      have b0 := Int.emod_nonneg ((c % 2147483629 + 104729 * ((k : Int) + 1)) * ((k : Int) + 7)) (Int.ne_of_gt m0)
      have b1 := Int.emod_lt_of_pos ((c % 2147483629 + 104729 * ((k : Int) + 1)) * ((k : Int) + 7)) m0
      generalize (c % 2147483629 + 104729 * ((k : Int) + 1)) * ((k : Int) + 7) % 2147483629 = bl at b0 b1
      refine ⟨_, rfl, _, rfl, _, _, rfl, rfl, .inl ⟨by omega, by omega⟩, .inl ⟨_, rfl, _, _, rfl, rfl, m0, _, _, rfl, rfl, .inr ⟨by decide, by decide⟩, _, _, rfl, rfl, m1, ?_⟩⟩
      refine ⟨_, rfl, _, rfl, _, _, rfl, rfl, ⟨by decide, by decide, by decide⟩, _, _, rfl, rfl, .inr ⟨_, rfl, _, _, rfl, rfl, (.inr (b01 _)), _, rfl, by show 2 ≤ sizeLine; decide, fun p hp => q p _ hp (Same.new hp) ⟨_, _, upd_same, nn01 c _⟩⟩⟩
    · refine ⟨_, rfl, (0 : Int), rfl, ?_⟩
      refine ⟨_, rfl, .inl ⟨_, rfl, _, _, rfl, rfl, m0, _, rfl, _, _, rfl, rfl, _, _, rfl, rfl, .inl ⟨by decide, by decide⟩, _, _, rfl, rfl, .inl ⟨_, rfl, _, rfl, _, _, rfl, rfl, _, _, rfl, rfl, .inr ⟨by omega, by omega⟩, _, _, rfl, rfl, m0, ?_⟩⟩⟩
      have b0 := Int.emod_nonneg (((0 : Int) % 2147483629 + 104729 * ((k : Int) + 1)) * ((k : Int) + 7)) (Int.ne_of_gt m0)
      have b1 := Int.emod_lt_of_pos (((0 : Int) % 2147483629 + 104729 * ((k : Int) + 1)) * ((k : Int) + 7)) m0
      generalize ((0 : Int) % 2147483629 + 104729 * ((k : Int) + 1)) * ((k : Int) + 7) % 2147483629 = bl at b0 b1
      refine ⟨_, rfl, _, rfl, _, _, rfl, rfl, .inl ⟨by omega, by omega⟩, .inl ⟨_, rfl, _, _, rfl, rfl, m0, _, _, rfl, rfl, .inr ⟨by decide, by decide⟩, _, _, rfl, rfl, m1, ?_⟩⟩
      refine ⟨_, rfl, _, rfl, _, _, rfl, rfl, ⟨by decide, by decide, by decide⟩, _, _, rfl, rfl, .inr ⟨_, rfl, _, _, rfl, rfl, (.inr (b01 _)), _, rfl, by show 2 ≤ sizeLine; decide, fun p hp => q p _ hp (Same.new hp) ⟨_, _, upd_same, nn01 0 _⟩⟩⟩
end

section
variable {P : Program} {w : World} {K : PySem.W.Frag} {mg : Str → Option Value} {base : Heap}
theorem ok_take {f : Addr} {fd : FuncData} (F : Fun K "_law_take" "_law_take" S_law_take f fd) (B : Bn2 mg) : FnOk P w K mg base CX0 1 f fd ["_law_pool_here", "_law_wide"] spTake := by
  refine F.ok sc_law_take (fun vs H Q E h => ?_) (fun cdv A outer s H vs Q E hr h => ?_)
  · obtain ⟨a, wd, rfl, _⟩ := h; rfl
  · obtain ⟨a, wd, rfl, ⟨p, q, ha, hp⟩, hw, hw2, k⟩ := h
    refine ⟨_, pss_cons (ps_if (pt_cmpR op_gt (pe_ix ix_list (pv 0) pe_int (fun _ _ => rfl)) pe_int (nomark _))
        (pss_cons (ps_set (i := 2) sc_law_take.nd rfl (Or.inl rfl) (pe_op op_mod (pe_callTy call_int1 (by rfl) B.int (by decide +kernel) (pa_cons (pe_ix ix_list (pv 0) pe_int (fun _ _ => rfl)) pa_nil)) (pv 1)))
        (pss_cons (ps_asg (pe_op op_fdiv (pe_ix ix_list (pv 0) pe_int (fun _ _ => rfl)) (pv 1)) (pg_sub (pv 0) pe_int set_list))
        (pss_one (ps_ret (pv 2))))) pss_nil)
      (pss_cons (ps_asg (pe_op op_mod (pe_callTy call_int1 (by rfl) B.int (by decide +kernel) (pa_cons (pe_op op_add (pe_op op_mul (pe_ix ix_list (pv 0) pe_int (fun _ _ => rfl)) pe_int) pe_int) pa_nil)) pe_int) (pg_sub (pv 0) pe_int set_list))
      (pss_one (ps_ret (pe_op op_mod (pe_op op_fdiv (pe_op op_mod (pe_callTy call_int1 (by rfl) B.int (by decide +kernel) (pa_cons (pe_op op_mul (pe_ix ix_list (pv 0) pe_int (fun _ _ => rfl)) (pe_ix ix_list (pv 0) pe_int (fun _ _ => rfl))) pa_nil)) pe_int) pe_int) (pv 1))))), ?_⟩
    have m0 : (0 : Int) < 2147483629 := by decide
    have m1 : (0 : Int) < 2147483647 := by decide
    have L : SqL K H a [.int p, .int q] := .of ha
    refine ⟨_, rfl, a, _, _, .int p, rfl, rfl, L, at_of (j := 0) rfl rfl, _, _, rfl, rfl, _, rfl, ?_⟩
    refine ite2 (fun h => ?_) (fun h => ?_)
    · refine ⟨_, rfl, a, _, _, .int p, rfl, rfl, L, at_of (j := 0) rfl rfl, .inl ⟨_, rfl, _, rfl, _, _, rfl, rfl, hw, ?_⟩⟩
      refine ⟨_, rfl, a, _, _, .int p, rfl, rfl, L, at_of (j := 0) rfl rfl, _, rfl, _, _, rfl, rfl, ⟨hw, hw2⟩, _, rfl, a, _, _, 0, rfl, rfl, ha, rfl, ?_⟩
      refine ⟨_, rfl, k _ _ (Int.emod_nonneg _ (Int.ne_of_gt hw)) (Int.emod_lt_of_pos _ hw) ⟨p / wd, q, upd_same, Int.ediv_nonneg hp (Int.le_of_lt hw)⟩ (fun b o hb hne => by rw [upd_ne hne]; exact hb) (fun b hb => ?_)⟩
      rw [upd_ne (fun e => by rw [e, ha] at hb; cases hb)]; exact hb
    · refine ⟨_, rfl, a, _, _, .int q, rfl, rfl, L, at_of (j := 1) rfl rfl, _, _, rfl, rfl, .inr ⟨by decide, by decide⟩, _, _, rfl, rfl, .inl ⟨_, rfl, _, _, rfl, rfl, m1, ?_⟩⟩
      refine ⟨_, rfl, a, _, _, 1, rfl, rfl, ha, rfl, ?_⟩
      dsimp only [List.set]
      have b0 := Int.emod_nonneg (q * 48271 + 12345) (Int.ne_of_gt m1)
      have b1 := Int.emod_lt_of_pos (q * 48271 + 12345) m1
      generalize (q * 48271 + 12345) % 2147483647 = z at b0 b1
      have L2 : SqL K (upd H a (.lst [.int p, .int z])) a [.int p, .int z] := .of upd_same
      refine ⟨_, rfl, a, _, _, .int z, rfl, rfl, L2, at_of (j := 1) rfl rfl, _, rfl, a, _, _, .int z, rfl, rfl, L2, at_of (j := 1) rfl rfl, _, _, rfl, rfl, .inl ⟨by omega, by omega⟩, .inl ⟨_, rfl, _, _, rfl, rfl, m0, _, _, rfl, rfl, ⟨by decide, by decide⟩, _, rfl, _, _, rfl, rfl, hw, ?_⟩⟩
      refine k _ _ (Int.emod_nonneg _ (Int.ne_of_gt hw)) (Int.emod_lt_of_pos _ hw) ⟨p, z, upd_same, hp⟩ (fun b o hb hne => by rw [upd_ne hne]; exact hb) (fun b hb => ?_)
      rw [upd_ne (fun e => by rw [e, ha] at hb; cases hb)]; exact hb
end
section
variable {P : Program} {w : World} {K : PySem.W.Frag} {mg : Str → Option Value} {base : Heap}
def spValue (K : PySem.W.Frag) : Sp := fun vs H Q _ => ∃ a n xs b m, vs = [.ref a, .int n] ∧ SqT K H a (iz xs) ∧ Bd b xs ∧ n.natAbs < 2 ^ m ∧ 0 < b ∧ 0 < m ∧ b + xs.length * (m + 1) + m ≤ 1000000 ∧ ∀ H', Same H H' → Q (.int (ev xs n)) H'
theorem ok_value {f : Addr} {fd : FuncData} (F : Fun K "_law_value" "_law_value" S_law_value f fd) : FnOk P w K mg base CX0 1 f fd ["_law_parts_here", "_law_n"] (spValue K) := by
  refine F.ok sc_law_value (fun vs H Q E h => ?_) (fun cdv A outer s H vs Q E hr h => ?_)
  · obtain ⟨a, n, xs, b, m, rfl, _⟩ := h; rfl
  · obtain ⟨a, n, xs, b, m, rfl, ha, hb, hm, b0, m0, hbm, k⟩ := h
    refine ⟨_, pss_cons (ps_set (i := 2) sc_law_value.nd rfl (Or.inl rfl) pe_int)
      (pss_cons (ps_for PassesOwn.never rfl (pi_tup (pe_revT (pv 0))) (pg_name (i := 3) sc_law_value.nd rfl (Or.inl rfl))
        (pss_one (ps_set (i := 2) sc_law_value.nd rfl (Or.inl rfl) (pe_op op_add (pe_op op_mulW (pv 2) (pv 1)) (pv 3)))))
      (pss_one (ps_ret (pv 2)))), ?_⟩
    refine ⟨_, rfl, a, iz xs, rfl, ha, fun p hp => ⟨p, rfl, ⟨_, .of upd_same⟩, for_tup (xs := (iz xs).reverse) (fun j σ H' => ∃ v3, σ = [some (.ref a), some (.int n), some (.int (ev (xs.drop (xs.length - j)) n)), v3] ∧ H' = upd H p (.tup (iz xs).reverse))
      ⟨none, by simp [ev]; rfl, rfl⟩ (fun j σ H' _ ⟨_, _, e⟩ => by rw [e]; exact .of upd_same) ?_ ?_⟩⟩
    · rintro j v σ H' hv ⟨v3, rfl, rfl⟩
      have hj : j < xs.length := by have := (List.getElem?_eq_some_iff.mp hv).1; simpa [iz_len] using this
      rw [List.getElem?_reverse (by rw [iz_len]; exact hj), iz_len] at hv
      obtain ⟨x, hx, rfl⟩ := of_iz_get hv
      have hd := Bd.drop hb (xs.length - j)
      have hl : (xs.drop (xs.length - j)).length ≤ xs.length := by rw [List.length_drop]; omega
      have hlt := ev_lt hd hm
      have hle : (xs.drop (xs.length - j)).length * (m + 1) ≤ xs.length * (m + 1) := Nat.mul_le_mul_right _ hl
      refine ⟨_, rfl, _, rfl, _, _, rfl, rfl, wide_mul hlt hm (by omega) m0 (by omega), _, rfl, _, _, rfl, rfl, ?_⟩
      refine ⟨some (.int x), ?_, rfl⟩
      rw [ev_rev xs n hx hj]
      rfl
    · rintro σ H' ⟨v3, rfl, rfl⟩
      rw [List.length_reverse, iz_len, Nat.sub_self, List.drop_zero]
      exact ⟨_, rfl, k _ (Same.new hp)⟩
def MENU : List Int := [0, 0, 1, -1, 2, 7, -30, 10 ^ 30]
structure Bn3 (mg : Str → Option Value) : Prop where
  range : mg "range" = none
  tuple : mg "tuple" = none
  list : mg "list" = none
/-- all that was tracked stands, but what is at a -/
def But (a : Addr) (H H' : Hp) : Prop := ∀ b o, H b = some o → b ≠ a → H' b = some o
theorem But.of {a : Addr} {H H' : Hp} (s : Same H H') : But a H H' := fun b o h _ => s b o h
theorem But.trans {a : Addr} {H H1 H2 : Hp} (s : But a H H1) (t : But a H1 H2) : But a H H2 := fun b o h n => t b o (s b o h n) n
theorem But.tup {K : PySem.W.Frag} {a b p q : Addr} {H H' : Hp} {xs ys : List V} (s : But a H H') (ha : H a = some (.lst ys)) (h : SqT K H b xs) : SqT K H' b xs := by
  rcases h with (h | ⟨o, h⟩) | h
  · exact .inl (.inl (s _ _ h (ne_of h ha fun e => nomatch e)))
  · exact .inl (.inr ⟨o, s _ _ h (ne_of h ha fun e => nomatch e)⟩)
  · exact .inr h
def spParts : Sp := fun vs H Q _ => ∃ a, vs = [.ref a] ∧ PoolAt H a ∧ ∀ (t : Addr) (H' : Hp) (xs : List Int), xs.length ≤ 4 → (∀ x ∈ xs, x ∈ MENU) → H' t = some (.tup (iz xs)) → PoolAt H' a → But a H H' → Q (.ref t) H'
theorem ok_parts {f fk : Addr} {fd fdk : FuncData} (F : Fun K "_law_parts" "_law_parts" S_law_parts f fd) (FK : Fun K "_law_take" "_law_take" S_law_take fk fdk) (bK : Binds K fdk ["_law_pool_here", "_law_wide"] []) (gK : mg "_law_take" = some (.ref fk)) (B : Bn2 mg) (B3 : Bn3 mg) :
    FnOk P w K mg base CX0 2 f fd ["_law_pool_here"] spParts := by
  have GK : FnOk P w K mg base CX0 1 fk fdk ["_law_pool_here", "_law_wide"] spTake := ok_take FK B
  refine F.ok sc_law_parts (fun vs H Q E h => ?_) (fun cdv A outer s H vs Q E hr h => ?_)
  · obtain ⟨a, rfl, _⟩ := h; rfl
  · obtain ⟨a, rfl, ha, k⟩ := h
    refine ⟨_, pss_cons (ps_set (i := 1) sc_law_parts.nd rfl (Or.inr rfl) (pe_lst (pa_cons pe_int (pa_cons pe_int (pa_cons pe_int (pa_cons (pe_un un_neg pe_int) (pa_cons pe_int (pa_cons pe_int (pa_cons (pe_un un_neg pe_int) (pa_cons (pe_op op_pow pe_int pe_int) pa_nil))))))))))
      (pss_one (ps_ret (pe_callTy call_tuple_of (by rfl) B3.tuple (by decide +kernel) (pa_cons
        (pe_lc (own := [("_law_turn", 2)]) (g := gName 2) (by rfl) sc_law_parts.nd (pi_range1 (by rfl) B3.range (pa_cons (pe_call GK hr (by rfl) gK FK.kp bK .nil pass0 (pa_cons (pv 0) (pa_cons pe_int pa_nil))) pa_nil))
          (blkOk_by (own := [("_law_turn", 2)]) (N := ["_law_pool_here", "_law_menu", "_law_turn"]) (sc := defScope S_law_parts) (by decide +kernel)) (fun _ _ _ _ _ => pg_name (i := 2) sc_law_parts.nd rfl (Or.inl rfl)) (fun _ _ _ _ _ => pts_nil)
          (fun _ _ _ _ _ => pe_ix (r := rIxL K) ix_list (pv 1) (pe_call GK hr (by rfl) gK FK.kp bK .nil pass0 (pa_cons (pv 0) (pa_cons pe_int pa_nil))) (fun _ _ => rfl))) pa_nil)))), ?_⟩
    obtain ⟨p0, q0, hpl, hp0⟩ := id ha
    refine ⟨1, rfl, 30, rfl, _, _, rfl, rfl, ⟨by decide, by decide, by decide⟩, smallL (by show 8 ≤ 10000; decide), fun M hM => ?_⟩
    have haM : a ≠ M := ne_of_none hpl hM
    have sM : Same H (upd H M (.lst (iz MENU))) := Same.new hM
    refine ⟨_, rfl, a, 5, rfl, ⟨p0, q0, by rw [upd_ne haM]; exact hpl, hp0⟩, by decide, by decide, fun r H1 r0 r1 hP1 b1 f1 => ?_⟩
    refine ⟨r, rfl, by omega, by omega, fun D hD => ?_⟩
    obtain ⟨p1, q1, hpl1, hp1⟩ := id hP1
    have haD : a ≠ D := ne_of_none hpl1 hD
    have hM1 : H1 M = some (.lst (iz MENU)) := b1 _ _ upd_same haM.symm
    have hMD : M ≠ D := ne_of_none hM1 hD
    refine lc_it (walk_range (lo := 0) (n := r.toNat)) (fun i H' => ∃ xs : List Int, xs.length = i ∧ (∀ x ∈ xs, x ∈ MENU) ∧ H' D = some (.lst (iz xs)) ∧ PoolAt H' a ∧ H' M = some (.lst (iz MENU)) ∧ But a H H')
      ⟨[], rfl, (fun x h => nomatch h), upd_same, ⟨p1, q1, by rw [upd_ne haD]; exact hpl1, hp1⟩, by rw [upd_ne hMD]; exact hM1, ?_⟩ (fun i H' _ _ => trivial) ?_ ?_
    · intro b o hb hne
      have e := b1 b o (sM b o hb) hne
      rw [upd_ne (ne_of_none e hD)]
      exact e
    · rintro i v H2 H2' hi ⟨xs, hl, hx, hd, hP, hm, hB⟩ ⟨rfl, rfl⟩
      refine ⟨rfl, ?_⟩
      refine ⟨_, rfl, _, rfl, a, 8, rfl, hP, by decide, by decide, fun z H3 z0 z1 hP3 b3 f3 => ?_⟩
      obtain ⟨p2, q2, hpl2, hp2⟩ := id hP
      obtain ⟨p3, q3, hpl3, hp3⟩ := id hP3
      have hm3 := b3 _ _ hm haM.symm
      have hd3 := b3 _ _ hd haD.symm
      have hz : z.toNat < MENU.length := by show z.toNat < 8; omega
      have hv : MENU[z.toNat]? = some MENU[z.toNat] := List.getElem?_eq_getElem hz
      refine ⟨M, iz MENU, _, _, rfl, rfl, .of hm3, at_of (j := z.toNat) (by omega) (iz_get hv), iz xs, hd3, by rw [iz_len, hl]; exact small1000 (by omega), ?_⟩
      refine ⟨xs ++ [MENU[z.toNat]], by simp [hl], fun x h => ?_, ?_, ⟨p3, q3, by rw [upd_ne haD]; exact hpl3, hp3⟩, by rw [upd_ne hMD]; exact hm3, fun b o hb hne => ?_⟩
      · rcases List.mem_append.mp h with h | h
        · exact hx x h
        · have : x = MENU[z.toNat] := by simpa using h
          rw [this]; exact List.getElem_mem hz
      · rw [upd_same]; simp [iz]
      · have e := b3 b o (hB b o hb hne) hne
        have hbD : b ≠ D := fun q => by
          have e1 : H1 b = some o := b1 b o (sM b o hb) hne
          rw [q, hD] at e1; cases e1
        rw [upd_ne hbD]; exact e
    · rintro H2 ⟨xs, hl, hx, hd, hP, hm, hB⟩
      refine ⟨D, _, rfl, .inl ⟨.of hd, fun p hp => ?_⟩⟩
      obtain ⟨p2, q2, hpl2, hp2⟩ := id hP
      refine k p _ xs (by omega) hx upd_same ⟨p2, q2, by rw [upd_ne (ne_of_none hpl2 hp)]; exact hpl2, hp2⟩ fun b o hb hne => ?_
      have e := hB b o hb hne
      rw [upd_ne (ne_of_none e hp)]; exact e
theorem eqv_list0 (xs : List Int) : PyData.eqv (.list (xs.map PyData.int)) (.list []) = decide (xs = []) := by
  have h := eqvAll_ints xs []
  rw [PyData.eqv]
  exact h
theorem shaped_listI (xs : List Int) : SeqAt.shaped (.list (xs.map PyData.int)) = true := by
  unfold SeqAt.shaped
  rw [PyData.canLay0, canAll_ints, PyData.depth, depth_ints]
  rfl
def spTrimL (K : PySem.W.Frag) : Sp := fun vs H Q _ => ∃ a xs, vs = [.ref a] ∧ SqT K H a (iz xs) ∧ xs.length ≤ 1000 ∧ ∀ p H', Same H H' → SqT K H' p (iz (trim xs)) → Q (.ref p) H'
theorem ok_ltrim {f : Addr} {fd : FuncData} (F : Fun K "_law_trimmed" "_law_trimmed" S_law_trimmed f fd) (B3 : Bn3 mg) : FnOk P w K mg base CX0 1 f fd ["_law_parts_here"] (spTrimL K) := by
  refine F.ok sc_law_trimmed (fun vs H Q E h => ?_) (fun cdv A outer s H vs Q E hr h => ?_)
  · obtain ⟨a, xs, rfl, _⟩ := h; rfl
  · obtain ⟨a, xs, rfl, ha, hl, k⟩ := h
    refine ⟨_, pss_cons (ps_set (i := 1) sc_law_trimmed.nd rfl (Or.inl rfl) (pe_callTy call_list_of (by rfl) B3.list (by decide +kernel) (pa_cons (pv 0) pa_nil)))
      (pss_cons (ps_while PassesOwn.never (PW.pt (pw_and (pt_cmpR (op_neD hr.units) (pv 1) (pe_lst pa_nil) (nomark _)) (pw_and1 (pt_cmpR op_eq (pe_ix ix_list (pv 1) (pe_un un_neg pe_int) (fun _ _ => rfl)) pe_int (nomark _)))))
        (pss_one (ps_expr (pe_bm0 PySem.F.plainAttrs_list PySem.F.slot_list_pop PySem.F.type_list_pop mt_pop (pv 1)))))
      (pss_one (ps_ret (pe_callTy call_tuple_of (by rfl) B3.tuple (by decide +kernel) (pa_cons (pv 1) pa_nil))))), ?_⟩
    refine ⟨_, rfl, a, iz xs, rfl, .inr ha, fun l hl0 => ?_⟩
    refine ⟨fun m σ H' => m ≤ xs.length ∧ σ = [some (.ref a), some (.ref l)] ∧ H' l = some (.lst (iz (xs.take m))) ∧ Same H H' ∧ trim (xs.take m) = trim xs, ⟨xs.length, Nat.le_refl _, rfl, by rw [upd_same, List.take_length], Same.new hl0, by rw [List.take_length]⟩, ?_⟩
    rintro m σ H1 ⟨hm, rfl, hz, s1, ht⟩
    refine ⟨_, rfl, by show 0 ≤ sizeLine; omega, fun e he => ?_⟩
    have hle : l ≠ e := ne_of_none hz he
    have hz2 : (upd H1 e (.lst [])) l = some (.lst (iz (xs.take m))) := by rw [upd_ne hle]; exact hz
    have s2 := s1.upN (o := .lst []) he
    refine ⟨.list ((xs.take m).map PyData.int), .list [], .lst (.of hz2) (dpAll_ints _), .lst (.of upd_same) .nil, shaped_listI _, by rfl, _, rfl, ?_⟩
    rw [eqv_list0]
    have fin : ∀ H', H' l = some (.lst (iz (trim xs))) → Same H H' → tRet (tCB (fun (ys : List V) (H1 : Hp) (Q1 : VK) => ∃ p zs, ys = [V.ref p] ∧ ((SqL K H1 p zs ∧ ∀ l, H1 l = none → Q1 (.ref l) (upd H1 l (.tup zs))) ∨ (SqT K H1 p zs ∧ Q1 (.ref p) H1)))
        (tCons (tVar 1) tNil)) { nx := fun _ H'' => Q .non H'', rt := Q } [some (.ref a), some (.ref l)] H' := fun H' h1 h2 =>
      ⟨_, rfl, l, _, rfl, .inl ⟨.of h1, fun p hp => k p _ (h2.upN hp) (.of upd_same)⟩⟩
    by_cases h0 : xs.take m = []
    · rw [decide_eq_true h0]
      refine iteF ?_
      refine fin _ ?_ s2
      rw [hz2, h0, ← ht, h0]
      rfl
    · rw [decide_eq_false h0]
      refine iteT ?_
      obtain ⟨j, rfl⟩ : ∃ j, m = j + 1 := by
        cases m with
        | zero => exact absurd rfl h0
        | succ j => exact ⟨j, rfl⟩
      have h2 : j < xs.length := hm
      have hx : xs[j]? = some xs[j] := List.getElem?_eq_getElem h2
      have et : xs.take (j + 1) = xs.take j ++ [xs[j]] := by rw [List.take_add_one, hx]; rfl
      have ei : iz (xs.take (j + 1)) = iz (xs.take j) ++ [V.int xs[j]] := by rw [et]; unfold iz; rw [List.map_append]; rfl
      refine ⟨_, rfl, _, rfl, l, iz (xs.take (j + 1)), _, _, rfl, rfl, .of hz2, by rw [ei]; exact atI_last _ _, rfl, _, rfl, ?_⟩
      refine ite2 (fun hzz => ?_) (fun hzz => ?_)
      · have ez : xs[j] = 0 := by simpa using hzz
        refine ⟨fun σ' H'' => j ≤ xs.length ∧ σ' = [some (.ref a), some (.ref l)] ∧ H'' l = some (.lst (iz (xs.take j))) ∧ Same H H'' ∧ trim (xs.take j) = trim xs, fun σ' H'' q => ⟨j, by omega, q⟩, ?_⟩
        refine ⟨_, rfl, .inl ⟨rfl, _, L2.SqL.of hz2⟩, l, iz (xs.take (j + 1)), V.int xs[j], rfl, rfl, hz2, ?_, ?_⟩
        · rw [ei]
          simp only [List.length_append, List.length_singleton, Nat.add_sub_cancel, List.getElem?_concat_length]
        · refine ⟨by omega, rfl, ?_, s2.upd0 hl0, ?_⟩
          · rw [upd_same, ei]; simp
          · rw [← ht, et, ez, trim_app0]
      · have ez : xs[j] ≠ 0 := by simpa using hzz
        have e3 : trim xs = xs.take (j + 1) := by rw [← ht, et, trim_app _ ez]
        exact fin _ (by rw [hz2, e3]) s2
end
end K40

namespace K40
open PySem L2 SZ VR StX RT
/-! ### _law_right -/
structure Row (K : PySem.W.Frag) (C : Addr) (n : Int) (H : Hp) (T : Addr) : Prop where
  ex : ∃ s told zs, H T = some (.tup [.ref s, .int told]) ∧ SzAt K C H s zs ∧ zs.length ≤ 20 ∧ Bd 400 zs ∧ trim zs = zs ∧ ev zs n = told
theorem Row.same {K : PySem.W.Frag} {C : Addr} {n : Int} {H H' : Hp} {T : Addr} (r : Row K C n H T) (s : Same H H') : Row K C n H' T := by
  obtain ⟨p, t, zs, h1, h2, h3⟩ := r.ex
  exact ⟨p, t, zs, s _ _ h1, h2.same s, h3⟩
theorem Row.mk' {K : PySem.W.Frag} {C : Addr} {n : Int} {H : Hp} {T p : Addr} {zs : List Int} {told : Int} (hp : SzAt K C H p (trim zs)) (hT : H T = none) (hl : zs.length ≤ 20) (hb : Bd 400 zs) (he : ev zs n = told) : Row K C n (upd H T (.tup [.ref p, .int told])) T :=
  ⟨p, told, trim zs, upd_same, hp.same (Same.new hT), Nat.le_trans (trim_len _) hl, hb.trim, trim_trim _, by rw [ev_trim]; exact he⟩
structure LawBn (mg : Str → Option Value) (fV fL fR fK fPl fPa : Addr) : Prop where
  b2 : Bn2 mg
  b3 : Bn3 mg
  gV : mg "_law_value" = some (.ref fV)
  gL : mg "_law_trimmed" = some (.ref fL)
  gR : mg "_law_right" = some (.ref fR)
  gK : mg "_law_take" = some (.ref fK)
  gPl : mg "_law_pool" = some (.ref fPl)
  gPa : mg "_law_parts" = some (.ref fPa)
  mn : mg "min" = none
def spRight (K : PySem.W.Frag) (C : Addr) : Sp := fun vs H Q _ => ∃ a b am n xs ys, vs = [.ref a, .ref b, .int am, .int n] ∧ SzAt K C H a xs ∧ SzAt K C H b ys ∧ xs.length ≤ 4 ∧ ys.length ≤ 4 ∧ Bd 101 xs ∧ Bd 101 ys ∧ am.natAbs < 2 ^ 101 ∧ n.natAbs < 2 ^ 101 ∧ ∀ H', Same H H' → Q (.bl true) H'
theorem dec_self {x : V} {A B : Prop} (h : B) : if (!decide (x = x)) = true then A else B := by
  rw [decide_eq_true rfl]
  exact iteF h
section
variable {P : Program} {w : World} {K : PySem.W.Frag} {mg : Str → Option Value} {base : Heap} {C fT fS fP fN fI fO fA fM : Addr} {fdT fdS fdP fdN fdI fdO fdA fdM fdG : FuncData} {pc g : Addr} {dvs : List V} {ds : List Value}
  {fadd fsub fmul fneg fcall feq : Addr} {da dsu dm dn dc de : FuncData} {fV fL fR fK fPl fPa : Addr} {dV dL dR dK dPl dPa : FuncData}
theorem ok_right (D : SzDefs K mg C fT fS fP fN fI fO fA fM fdT fdS fdP fdN fdI fdO fdA fdM fdG pc g dvs ds) (O : SzOps K C fadd fsub fmul fneg fcall feq da dsu dm dn dc de) (L : LawBn mg fV fL fR fK fPl fPa)
    (FV : Fun K "_law_value" "_law_value" S_law_value fV dV) (bV : Binds K dV ["_law_parts_here", "_law_n"] []) (FL : Fun K "_law_trimmed" "_law_trimmed" S_law_trimmed fL dL) (bL : Binds K dL ["_law_parts_here"] [])
    (FR : Fun K "_law_right" "_law_right" S_law_right fR dR) : FnOk P w K mg base CX0 6 fR dR ["_law_one", "_law_other", "_law_amount", "_law_n"] (spRight K C) := by
  have GA : FnOk P w K mg base CX0 4 fadd da ["self", "other"] (spBin K C sumL CnAny) := ok_add O.Fadd D
  have GSu : FnOk P w K mg base CX0 4 fsub dsu ["self", "other"] (spBin K C (fun xs ys => sumL xs (negL ys)) CnAny) := ok_sub O.Fsub D
  have GM : FnOk P w K mg base CX0 4 fmul dm ["self", "other"] (spBin K C mulL CnMul) := ok_mul O.Fmul D
  have GNe : FnOk P w K mg base CX0 4 fneg dn ["self"] (spNeg K C) := ok_neg O.Fneg D
  have GC := (ok_call (P := P) (w := w) (base := base) D O).raw O.bcall .nil
  have GG : FnOk P w K mg base CX0 1 g fdG ["self"] (spGet K C) := ok_coefficients D.G D.Z
  have GV : FnOk P w K mg base CX0 1 fV dV ["_law_parts_here", "_law_n"] (spValue K) := ok_value FV
  have GL : FnOk P w K mg base CX0 1 fL dL ["_law_parts_here"] (spTrimL K) := ok_ltrim FL L.b3
  refine FR.ok sc_law_right (fun vs H Q E h => ?_) (fun cdv A outer s H vs Q E hr h => ?_)
  · obtain ⟨a, b, am, n, xs, ys, rfl, _⟩ := h; rfl
  · obtain ⟨a, b, am, n, xs, ys, rfl, hxa, hyb, hxl, hyl, hbx, hby, hbam, hbn, k⟩ := h
    have hr4 : Room 4 _ := hr.mono (by decide)
    have hr1 : Room 1 _ := hr.mono (by decide)
    have hr2 : Room 2 _ := hr.mono (by decide)
    refine ⟨_, pss_cons (ps_par (i := 4) (j := 5) (by rfl) sc_law_right.nd rfl rfl (by decide) rfl rfl (pa_cons (pe_call GV hr1 (by rfl) L.gV FV.kp bV .nil pass0 (pa_cons (pe_prop (pv 0) D.Z.kit.cl D.pc GG hr2 D.bG .nil pass0 rfl) (pa_cons (pv 3) pa_nil)))
          (pa_cons (pe_call GV hr1 (by rfl) L.gV FV.kp bV .nil pass0 (pa_cons (pe_prop (pv 1) D.Z.kit.cl D.pc GG hr2 D.bG .nil pass0 rfl) (pa_cons (pv 3) pa_nil))) pa_nil)) (by rfl))
      (pss_cons (ps_set (i := 6) sc_law_right.nd rfl (Or.inl rfl) (pe_lst
          (pa_cons (pe_tup (pa_cons (pe_op (op_own O.add GA hr4 O.badd pass0) (pv 0) (pv 1)) (pa_cons (pe_op op_add (pv 4) (pv 5)) pa_nil)))
          (pa_cons (pe_tup (pa_cons (pe_op (op_own O.sub GSu hr4 O.bsub pass0) (pv 0) (pv 1)) (pa_cons (pe_op op_sub (pv 4) (pv 5)) pa_nil)))
          (pa_cons (pe_tup (pa_cons (pe_op (op_own O.mul GM hr4 O.bmul pass0) (pv 0) (pv 1)) (pa_cons (pe_op op_mulW (pv 4) (pv 5)) pa_nil)))
          (pa_cons (pe_tup (pa_cons (pe_un (un_own O.neg O.fneg GNe hr4 O.bneg pass0) (pv 0)) (pa_cons (pe_un un_neg (pv 4)) pa_nil))) pa_nil))))))
      (pss_cons (ps_set (i := 6) sc_law_right.nd rfl (Or.inl rfl) (pe_op op_cat (pv 6) (pe_lst
          (pa_cons (pe_tup (pa_cons (pe_op (op_own O.add GA hr4 O.badd pass0) (pv 0) (pv 2)) (pa_cons (pe_op op_add (pv 4) (pv 2)) pa_nil)))
          (pa_cons (pe_tup (pa_cons (pe_op (op_own O.sub GSu hr4 O.bsub pass0) (pv 0) (pv 2)) (pa_cons (pe_op op_sub (pv 4) (pv 2)) pa_nil)))
          (pa_cons (pe_tup (pa_cons (pe_op (op_own O.mul GM hr4 O.bmul pass0) (pv 0) (pv 2)) (pa_cons (pe_op op_mulW (pv 4) (pv 2)) pa_nil))) pa_nil))))))
      (pss_cons (ps_for PassesOwn.never rfl (pi_list (pv 6)) (pg_tup rfl (pgs_cons (pg_name (i := 7) sc_law_right.nd rfl (Or.inl rfl)) (pgs_cons (pg_name (i := 8) sc_law_right.nd rfl (Or.inl rfl)) pgs_nil)))
        (pss_one (ps_if (PW.pt (pw_or (pt_cmpR op_ne (pe_callO (pv 7) O.call GC hr pass0 (pa_cons (pv 3) pa_nil)) (pv 8) (nomark _))
            (pw_or (pt_cmpR (op_neD hr.units) (pe_prop (pv 7) D.Z.kit.cl D.pc GG hr2 D.bG .nil pass0 rfl) (pe_call GL hr1 (by rfl) L.gL FL.kp bL .nil pass0 (pa_cons (pe_prop (pv 7) D.Z.kit.cl D.pc GG hr2 D.bG .nil pass0 rfl) pa_nil)) (nomark _))
            (pw_or1 (pt_not (pt_val (pe_callB call_isi (by rfl) D.B.isinstance (by decide +kernel) (pa_cons (pv 7) (pa_cons (pe_glob (by rfl) D.Z.mgC (v := .ref C) rfl) pa_nil)))))))))
          (pss_one (ps_ret pe_bl)) pss_nil)))
      (pss_one (ps_ret (pe_and (pe_cmpR op_eq (pe_callO (pv 0) O.call GC hr pass0 (pa_cons (pv 3) pa_nil)) (pv 4) (nomark _))
        (pe_one (pe_cmpR op_eq (pe_callO (pe_callO (pv 0) O.call GC hr pass0 (pa_cons (pv 1) pa_nil)) O.call GC hr pass0 (pa_cons (pv 3) pa_nil)) (pe_call GV hr1 (by rfl) L.gV FV.kp bV .nil pass0 (pa_cons (pe_prop (pv 0) D.Z.kit.cl D.pc GG hr2 D.bG .nil pass0 rfl) (pa_cons (pv 5) pa_nil))) (nomark _))))))))), ?_⟩
    obtain ⟨dxa, ta, ha1, ha2⟩ := id hxa
    obtain ⟨dxb, tb, hb1, hb2⟩ := id hyb
    have two : (2 : Nat) ≤ sizeLine := by decide
    -- first, second
    refine ⟨_, rfl, a, dxa, _, rfl, ha1, a, xs, rfl, hxa, fun t1 ht1 => ?_⟩
    refine ⟨_, rfl, t1, n, xs, 101, 101, rfl, ht1, hbx, hbn, by decide, by decide, by omega, fun H1 s1 => ?_⟩
    refine ⟨_, rfl, b, dxb, _, rfl, s1 _ _ hb1, b, ys, rfl, hyb.same s1, fun t2 ht2 => ?_⟩
    refine ⟨_, rfl, t2, n, ys, 101, 101, rfl, ht2, hby, hbn, by decide, by decide, by omega, fun H2 s2 => ?_⟩
    have S2 := s1.trans s2
    have bfx : (ev xs n).natAbs < 2 ^ 600 := Nat.lt_of_lt_of_le (ev_lt hbx hbn) (Nat.pow_le_pow_right (by decide) (by omega))
    have bfy : (ev ys n).natAbs < 2 ^ 600 := Nat.lt_of_lt_of_le (ev_lt hby hbn) (Nat.pow_le_pow_right (by decide) (by omega))
    refine ⟨_, _, rfl, ?_⟩
    -- one + other
    refine ⟨_, rfl, _, rfl, a, dxa, _, rfl, S2 _ _ ha1, .inl ⟨b, dxb, _, rfl, S2 _ _ hb1⟩, a, .ref b, xs, ys, rfl, hxa.same S2, .inl ⟨b, rfl, hyb.same S2⟩, by omega, by omega, trivial, fun p1 H3 s3 hp1 => ?_⟩
    refine ⟨_, rfl, _, rfl, _, _, rfl, rfl, two, fun T1 hT1 => ?_⟩
    have R1 := Row.mk' (n := n) hp1 hT1 (by rw [len_sumL]; omega) ((Bd.sumL hbx hby).mono (by decide)) (ev_sumL xs ys n)
    have S3 := (S2.trans s3).upN (o := .tup [.ref p1, .int (ev xs n + ev ys n)]) hT1
    -- one - other
    refine ⟨_, rfl, _, rfl, a, dxa, _, rfl, S3 _ _ ha1, .inl ⟨b, dxb, _, rfl, S3 _ _ hb1⟩, a, .ref b, xs, ys, rfl, hxa.same S3, .inl ⟨b, rfl, hyb.same S3⟩, by omega, by omega, trivial, fun p2 H4 s4 hp2 => ?_⟩
    refine ⟨_, rfl, _, rfl, _, _, rfl, rfl, two, fun T2 hT2 => ?_⟩
    have R2 := Row.mk' (n := n) (told := ev xs n - ev ys n) hp2 hT2 (by rw [len_sumL]; simp [negL]; omega) ((Bd.sumL hbx hby.negL).mono (by decide)) (by rw [ev_sumL, ev_negL]; omega)
    have U4 := s4.upN (o := .tup [.ref p2, .int (ev xs n - ev ys n)]) hT2
    have S4 := S3.trans U4
    have R1 := R1.same U4
    -- one * other
    refine ⟨_, rfl, _, rfl, a, dxa, _, rfl, S4 _ _ ha1, .inl ⟨b, dxb, _, rfl, S4 _ _ hb1⟩, a, .ref b, xs, ys, rfl, hxa.same S4, .inl ⟨b, rfl, hyb.same S4⟩, by omega, by omega, fun x hx y hy => wide_mul (hbx x hx) (hby y hy) (by decide) (by decide) (by decide), fun p3 H5 s5 hp3 => ?_⟩
    refine ⟨_, rfl, _, rfl, _, _, rfl, rfl, wide_mul bfx bfy (by decide) (by decide) (by decide), two, fun T3 hT3 => ?_⟩
    have R3 := Row.mk' (n := n) hp3 hT3 (by rw [len_mulL]; omega) ((Bd.mulL hbx hby).mono (by omega)) (ev_mulL xs ys n)
    have U5 := s5.upN (o := .tup [.ref p3, .int (ev xs n * ev ys n)]) hT3
    have S5 := S4.trans U5
    have R1 := R1.same U5
    have R2 := R2.same U5
    -- -one
    refine ⟨_, rfl, a, dxa, _, rfl, S5 _ _ ha1, a, xs, rfl, hxa.same S5, by omega, fun p4 H6 s6 hp4 => ?_⟩
    refine ⟨_, rfl, _, rfl, two, fun T4 hT4 => ?_⟩
    have R4 := Row.mk' (n := n) hp4 hT4 (by simp [negL]; omega) (hbx.negL.mono (by decide)) (ev_negL xs n)
    have U6 := s6.upN (o := .tup [.ref p4, .int (-ev xs n)]) hT4
    have S6 := S5.trans U6
    have R1 := R1.same U6
    have R2 := R2.same U6
    have R3 := R3.same U6
    refine ⟨smallL (by show 4 ≤ 10000; decide), fun l0 hl0 => ?_⟩
    have U7 := Same.new (o := .lst [.ref T1, .ref T2, .ref T3, .ref T4]) hl0
    have S7 := S6.trans U7
    have R1 := R1.same U7
    have R2 := R2.same U7
    have R3 := R3.same U7
    have R4 := R4.same U7
    -- one + amount
    refine ⟨_, rfl, _, rfl, _, rfl, a, dxa, _, rfl, S7 _ _ ha1, .inr ⟨am, rfl⟩, a, .int am, xs, [am], rfl, hxa.same S7, .inr ⟨am, rfl, rfl⟩, by omega, by show 1 ≤ 400; decide, trivial, fun p5 H8 s8 hp5 => ?_⟩
    refine ⟨_, rfl, _, rfl, _, _, rfl, rfl, two, fun T5 hT5 => ?_⟩
    have ba : Bd 101 [am] := Bd.cons hbam Bd.nil
    have ea : ev [am] n = am := by simp [ev]
    have R5 := Row.mk' (n := n) hp5 hT5 (by rw [len_sumL]; show max _ 1 ≤ 20; omega) ((Bd.sumL hbx ba).mono (by decide)) (by rw [ev_sumL, ea])
    have U8 := s8.upN (o := .tup [.ref p5, .int (ev xs n + am)]) hT5
    have S8 := S7.trans U8
    have R1 := R1.same U8
    have R2 := R2.same U8
    have R3 := R3.same U8
    have R4 := R4.same U8
    have L8 := U8 _ _ (upd_same (H := _) (a := l0) (o := .lst [.ref T1, .ref T2, .ref T3, .ref T4]))
    -- one - amount
    refine ⟨_, rfl, _, rfl, a, dxa, _, rfl, S8 _ _ ha1, .inr ⟨am, rfl⟩, a, .int am, xs, [am], rfl, hxa.same S8, .inr ⟨am, rfl, rfl⟩, by omega, by show 1 ≤ 400; decide, trivial, fun p6 H9 s9 hp6 => ?_⟩
    refine ⟨_, rfl, _, rfl, _, _, rfl, rfl, two, fun T6 hT6 => ?_⟩
    have R6 := Row.mk' (n := n) (told := ev xs n - am) hp6 hT6 (by rw [len_sumL]; show max _ 1 ≤ 20; omega) ((Bd.sumL hbx ba.negL).mono (by decide)) (by rw [ev_sumL, ev_negL, ea]; omega)
    have U9 := s9.upN (o := .tup [.ref p6, .int (ev xs n - am)]) hT6
    have S9 := S8.trans U9
    have R1 := R1.same U9
    have R2 := R2.same U9
    have R3 := R3.same U9
    have R4 := R4.same U9
    have R5 := R5.same U9
    have L9 := U9 _ _ L8
    -- one * amount
    refine ⟨_, rfl, _, rfl, a, dxa, _, rfl, S9 _ _ ha1, .inr ⟨am, rfl⟩, a, .int am, xs, [am], rfl, hxa.same S9, .inr ⟨am, rfl, rfl⟩, by omega, by show 1 ≤ 400; decide, fun x hx y hy => wide_mul (hbx x hx) (ba y hy) (by decide) (by decide) (by decide), fun p7 H10 s10 hp7 => ?_⟩
    refine ⟨_, rfl, _, rfl, _, _, rfl, rfl, wide_mul bfx hbam (by decide) (by decide) (by decide), two, fun T7 hT7 => ?_⟩
    have R7 := Row.mk' (n := n) hp7 hT7 (by rw [len_mulL]; show _ + 1 ≤ 20; omega) ((Bd.mulL hbx ba).mono (by omega)) (by rw [ev_mulL, ea])
    have U10 := s10.upN (o := .tup [.ref p7, .int (ev xs n * am)]) hT7
    have S10 := S9.trans U10
    have R1 := R1.same U10
    have R2 := R2.same U10
    have R3 := R3.same U10
    have R4 := R4.same U10
    have R5 := R5.same U10
    have R6 := R6.same U10
    have L10 := U10 _ _ L9
    refine ⟨smallL (by show 3 ≤ 10000; decide), fun l1 hl1 => ?_⟩
    refine ⟨l0, l1, [.ref T1, .ref T2, .ref T3, .ref T4], [.ref T5, .ref T6, .ref T7], rfl, rfl, by rw [upd_ne (ne_of_none L10 hl1)]; exact L10, upd_same, smallL (by show 7 ≤ 10000; decide), fun l2 hl2 => ?_⟩
    have U11 := (Same.new (o := .lst [.ref T5, .ref T6, .ref T7]) hl1).upN (o := .lst ([.ref T1, .ref T2, .ref T3, .ref T4] ++ [.ref T5, .ref T6, .ref T7])) hl2
    have S11 := S10.trans U11
    have R1 := R1.same U11
    have R2 := R2.same U11
    have R3 := R3.same U11
    have R4 := R4.same U11
    have R5 := R5.same U11
    have R6 := R6.same U11
    have R7 := R7.same U11
    -- for size, told in due
    refine ⟨_, rfl, l2, rfl, ⟨_, .of upd_same⟩, for_list (xs := [.ref T1, .ref T2, .ref T3, .ref T4] ++ [.ref T5, .ref T6, .ref T7]) (fun i σ H' => ∃ v7 v8, σ = [some (.ref a), some (.ref b), some (.int am), some (.int n), some (.int (ev xs n)), some (.int (ev ys n)), some (.ref l2), v7, v8] ∧ Same H H' ∧ H' l2 = some (.lst ([.ref T1, .ref T2, .ref T3, .ref T4] ++ [.ref T5, .ref T6, .ref T7])) ∧
        ∀ x ∈ ([.ref T1, .ref T2, .ref T3, .ref T4] ++ [.ref T5, .ref T6, .ref T7] : List V), ∃ T, x = .ref T ∧ Row K C n H' T)
      ⟨none, none, rfl, S11, upd_same, fun x hx => ?_⟩ (fun i σ H' _ ⟨_, _, _, _, s, _⟩ => .of s) ?_ ?_⟩
    · simp only [List.cons_append, List.nil_append, List.mem_cons, List.not_mem_nil, or_false] at hx
      rcases hx with rfl | rfl | rfl | rfl | rfl | rfl | rfl
      · exact ⟨_, rfl, R1⟩
      · exact ⟨_, rfl, R2⟩
      · exact ⟨_, rfl, R3⟩
      · exact ⟨_, rfl, R4⟩
      · exact ⟨_, rfl, R5⟩
      · exact ⟨_, rfl, R6⟩
      · exact ⟨_, rfl, R7⟩
    · rintro i v σ H' hv ⟨v7, v8, rfl, s, hl2', hrow⟩
      obtain ⟨T, rfl, RT⟩ := hrow v (List.mem_of_getElem? hv)
      obtain ⟨sz, told, zs, hT, hz, hzl, hzb, hzt, hze⟩ := RT.ex
      obtain ⟨dz, tz, hz1, hz2⟩ := id hz
      refine ⟨T, _, rfl, .of hT, rfl, _, _, rfl, _, _, rfl, rfl, ?_⟩
      refine ⟨_, rfl, sz, rfl, _, rfl, .inr ⟨_, _, hz1⟩, sz, .int n, zs, rfl, hz, hzl, .inl ⟨n, 400, 101, rfl, hzb, hbn, by decide, by decide, by omega, fun H2 s2 => ?_⟩⟩
      refine ⟨_, rfl, rfl, _, rfl, ?_⟩
      rw [hze]
      refine dec_self ?_
      have hz' := hz.same s2
      have hz1' := s2 _ _ hz1
      refine ⟨_, rfl, sz, dz, _, rfl, hz1', sz, zs, rfl, hz', fun u1 hu1 => ?_⟩
      refine ⟨_, rfl, sz, dz, _, rfl, hz1', sz, zs, rfl, hz', fun u2 hu2 => ?_⟩
      refine ⟨u2, zs, rfl, hu2, by omega, fun p H3 s3 hp => ?_⟩
      refine ⟨dI zs, dI (trim zs), dp_ints (s3.tup hu1), dp_ints hp, shaped_ints _, shaped_ints _, _, rfl, ?_⟩
      rw [eqv_ints, hzt, decide_eq_true rfl]
      refine iteF ?_
      refine ⟨_, rfl, _, _, _, _, true, rfl, .own C, D.Z.kit.ty (s3 _ _ hz1'), kit_self (by simp), true, rfl, ?_⟩
      refine iteF ?_
      exact ⟨_, _, rfl, (s.trans s2).trans s3, (s2.trans s3) _ _ hl2', fun x hx => let ⟨T, e, r⟩ := hrow x hx; ⟨T, e, r.same (s2.trans s3)⟩⟩
    · rintro σ H' ⟨v7, v8, rfl, SE, _, _⟩
      refine ⟨_, rfl, a, rfl, _, rfl, .inr ⟨_, _, SE _ _ ha1⟩, a, .int n, xs, rfl, hxa.same SE, by omega, .inl ⟨n, 101, 101, rfl, hbx, hbn, by decide, by decide, by omega, fun H2 s2 => ?_⟩⟩
      refine ⟨_, rfl, rfl, true, by rw [decide_eq_true rfl], iteT ?_⟩
      have S2 := SE.trans s2
      obtain ⟨dbb, tbb, hb1', hb2'⟩ := id (hyb.same S2)
      refine ⟨_, rfl, a, rfl, _, rfl, .inr ⟨_, _, S2 _ _ ha1⟩, a, .ref b, xs, rfl, hxa.same S2, by omega, .inr ⟨b, ys, 101, rfl, hyb.same S2, by omega, hbx, hby, by decide, by decide, fun p H3 s3 hp => ?_⟩⟩
      obtain ⟨dp, tp, hp1, hp2⟩ := id hp
      have hcl := cmp_len xs ys
      have hcm : xs.length * ys.length ≤ 4 * 4 := Nat.mul_le_mul hxl hyl
      have hcb := cmp_bd (b := 101) (by decide) (by omega : xs.length ≤ 20) (by omega : ys.length ≤ 8) hbx hby
      refine ⟨p, rfl, _, rfl, .inr ⟨_, _, hp1⟩, p, .int n, cmp xs ys, rfl, hp, by omega, .inl ⟨n, 101 + xs.length * (101 + 200), 101, rfl, hcb, hbn, by omega, by decide, by omega, fun H4 s4 => ?_⟩⟩
      have S4 := (S2.trans s3).trans s4
      refine ⟨_, rfl, a, _, _, rfl, S4 _ _ ha1, a, xs, rfl, hxa.same S4, fun t5 ht5 => ?_⟩
      refine ⟨_, rfl, t5, _, xs, 101, 600, rfl, ht5, hbx, bfy, by decide, by decide, by omega, fun H5 s5 => ?_⟩
      refine ⟨rfl, ?_⟩
      rw [ev_cmp, decide_eq_true rfl]
      exact k _ (S4.trans s5)
end
end K40

namespace K40
open PySem L2 SZ VR StX RT
/-! ### law -/
theorem PoolAt.same {H H' : Hp} {a : Addr} (h : PoolAt H a) (s : Same H H') : PoolAt H' a := let ⟨p, q, e, h0⟩ := h; ⟨p, q, s _ _ e, h0⟩
theorem tup_but {H H' : Hp} {p t : Addr} {xs : List V} (hp : PoolAt H p) (s : But p H H') (h : H t = some (.tup xs)) : H' t = some (.tup xs) := by
  obtain ⟨a, b, e, _⟩ := hp
  exact s _ _ h (ne_of h e fun z => nomatch z)
theorem ins_but {H H' : Hp} {p t C dx : Addr} {fs : List (Str × V)} (hp : PoolAt H p) (s : But p H H') (h : H t = some (.ins C dx fs)) : H' t = some (.ins C dx fs) := by
  obtain ⟨a, b, e, _⟩ := hp
  exact s _ _ h (ne_of h e fun z => nomatch z)
theorem SzAt.but {K : PySem.W.Frag} {C : Addr} {H H' : Hp} {p a : Addr} {xs : List Int} (hp : PoolAt H p) (s : But p H H') (h : SzAt K C H a xs) : SzAt K C H' a xs := by
  obtain ⟨dx, t, h1, h2⟩ := h
  obtain ⟨u, v, e, _⟩ := id hp
  exact ⟨dx, t, ins_but hp s h1, But.tup (p := a) (q := a) s e h2⟩
theorem same_but {H H1 H2 : Hp} {p : Addr} (h0 : H p = none) (s : Same H H1) (b : But p H1 H2) : Same H H2 := fun c o h => b c o (s c o h) (fun e => by rw [e, h0] at h; cases h)
theorem app0 (xs : List Int) : iz (xs ++ [0]) = iz xs ++ [V.int 0] := by simp [iz]
theorem menu_bd : ∀ x ∈ MENU, x.natAbs < 2 ^ 101 := by decide
def spLaw (K : PySem.W.Frag) : Sp := fun vs H Q _ => ∃ (a : Addr) (ns : List Int), vs = [.ref a] ∧ SqL K H a (iz ns) ∧ ns.length ≤ 63 ∧ ∀ H', Q (.bl true) H'
theorem eqv_self_bl (c : Bool) : (!decide (V.bl c = V.bl c)) = false := by simp
section
variable {P : Program} {w : World} {K : PySem.W.Frag} {mg : Str → Option Value} {base : Heap} {C fT fS fP fN fI fO fA fM : Addr} {fdT fdS fdP fdN fdI fdO fdA fdM fdG : FuncData} {pc g : Addr} {dvs : List V} {ds : List Value}
  {fadd fsub fmul fneg fcall feq : Addr} {da dsu dm dn dc de : FuncData} {fV fL fR fK fPl fPa : Addr} {dV dL dR dK dPl dPa : FuncData}
/-- the law's own defs -/
structure LawDefs (K : PySem.W.Frag) (mg : Str → Option Value) (fV fL fR fK fPl fPa : Addr) (dV dL dR dK dPl dPa : FuncData) : Prop where
  L : LawBn mg fV fL fR fK fPl fPa
  V : Fun K "_law_value" "_law_value" S_law_value fV dV
  bV : Binds K dV ["_law_parts_here", "_law_n"] []
  T : Fun K "_law_trimmed" "_law_trimmed" S_law_trimmed fL dL
  bT : Binds K dL ["_law_parts_here"] []
  R : Fun K "_law_right" "_law_right" S_law_right fR dR
  bR : Binds K dR ["_law_one", "_law_other", "_law_amount", "_law_n"] []
  Kk : Fun K "_law_take" "_law_take" S_law_take fK dK
  bK : Binds K dK ["_law_pool_here", "_law_wide"] []
  Pl : Fun K "_law_pool" "_law_pool" S_law_pool fPl dPl
  bPl : Binds K dPl ["_law_script", "_law_k"] []
  Pa : Fun K "_law_parts" "_law_parts" S_law_parts fPa dPa
  bPa : Binds K dPa ["_law_pool_here"] []
theorem ok_law {f gd pd : Addr} {fd fdD : FuncData} (F : Fun K "law" "law" S_law f fd) (D : SzDefs K mg C fT fS fP fN fI fO fA fM fdT fdS fdP fdN fdI fdO fdA fdM fdG pc g dvs ds) (O : SzOps K C fadd fsub fmul fneg fcall feq da dsu dm dn dc de) (W : LawDefs K mg fV fL fR fK fPl fPa dV dL dR dK dPl dPa)
    (hpd : PropOf K C "degree" pd gd) (FD : Fun K "degree" "Size.degree" S_Size_degree gd fdD) (bD : Binds K fdD ["self"] []) : FnOk P w K mg base CX0 7 f fd ["_law_script"] (spLaw K) := by
  have GG : FnOk P w K mg base CX0 1 g fdG ["self"] (spGet K C) := ok_coefficients D.G D.Z
  have GD : FnOk P w K mg base CX0 1 gd fdD ["self"] (spDeg K C) := ok_degree FD D.Z D.B
  have GE : FnOk P w K mg base CX0 1 feq de ["self", "other"] (spEqv K C) := ok_eq O.Feq D.Z D.B
  have GL : FnOk P w K mg base CX0 1 fL dL ["_law_parts_here"] (spTrimL K) := ok_ltrim W.T W.L.b3
  have GK : FnOk P w K mg base CX0 1 fK dK ["_law_pool_here", "_law_wide"] spTake := ok_take W.Kk W.L.b2
  have GPl : FnOk P w K mg base CX0 1 fPl dPl ["_law_script", "_law_k"] (spPool K) := ok_pool W.Pl W.L.b2
  have GPa : FnOk P w K mg base CX0 2 fPa dPa ["_law_pool_here"] spParts := ok_parts W.Pa W.Kk W.bK W.L.gK W.L.b2 W.L.b3
  have GR : FnOk P w K mg base CX0 6 fR dR ["_law_one", "_law_other", "_law_amount", "_law_n"] (spRight K C) := ok_right D O W.L W.V W.bV W.T W.bT W.R
  refine F.ok sc_law (fun vs H Q E h => ?_) (fun cdv A outer s H vs Q E hr h => ?_)
  · obtain ⟨a, ns, rfl, _⟩ := h; rfl
  · obtain ⟨a, ns, rfl, ha, hl, k⟩ := h
    have hr1 : Room 1 _ := hr.mono (by decide)
    have hr2 : Room 2 _ := hr.mono (by decide)
    have hr3 : Room 3 _ := hr.mono (by decide)
    refine ⟨_, pss_cons (ps_for PassesOwn.never rfl (pi_range1 (by rfl) W.L.b3.range (pa_cons (pe_callB (call_max2 rfl) (by rfl) D.B.max (by decide +kernel) (pa_cons pe_int (pa_cons (pe_callB (call_min2 rfl) (by rfl) W.L.mn (by decide +kernel)
          (pa_cons (pe_callB call_len_seq (by rfl) D.B.len PySem.boot_len (pa_cons (pv 0) pa_nil)) (pa_cons pe_int pa_nil))) pa_nil))) pa_nil)) (pg_name (i := 1) sc_law.nd rfl (Or.inl rfl))
        (pss_cons (ps_set (i := 2) sc_law.nd rfl (Or.inl rfl) (pe_call GPl hr1 (by rfl) W.L.gPl W.Pl.kp W.bPl .nil pass0 (pa_cons (pv 0) (pa_cons (pv 1) pa_nil))))
        (pss_cons (ps_par (i := 3) (j := 4) (by rfl) sc_law.nd rfl rfl (by decide) rfl rfl (pa_cons (pe_call GPa hr2 (by rfl) W.L.gPa W.Pa.kp W.bPa .nil pass0 (pa_cons (pv 2) pa_nil)) (pa_cons (pe_call GPa hr2 (by rfl) W.L.gPa W.Pa.kp W.bPa .nil pass0 (pa_cons (pv 2) pa_nil)) pa_nil)) (by rfl))
        (pss_cons (ps_par3 (i := 5) (j := 6) (l := 7) (by rfl) sc_law.nd rfl rfl rfl (by decide) (by decide) (by decide) rfl rfl rfl (pa_cons (pe_make D.M D.okI hr3 (by rfl) D.Z.mgC D.bM .nil pass0 (pa_cons (pv 3) pa_nil)) (pa_cons (pe_make D.M D.okI hr3 (by rfl) D.Z.mgC D.bM .nil pass0 (pa_cons (pv 4) pa_nil))
            (pa_cons (pe_ix ix_list (pe_lst (pa_cons pe_int (pa_cons pe_int (pa_cons (pe_un un_neg pe_int) (pa_cons (pe_op op_pow pe_int pe_int) pa_nil))))) (pe_call GK hr1 (by rfl) W.L.gK W.Kk.kp W.bK .nil pass0 (pa_cons (pv 2) (pa_cons pe_int pa_nil))) (fun _ _ => rfl)) pa_nil))) (by rfl))
        (pss_cons (ps_if (PW.pt (pw_or (pt_cmpR (op_neD hr.units) (pe_prop (pv 5) D.Z.kit.cl D.pc GG hr2 D.bG .nil pass0 rfl) (pe_call GL hr1 (by rfl) W.L.gL W.T.kp W.bT .nil pass0 (pa_cons (pv 3) pa_nil)) (nomark _))
            (pw_or1 (pt_cmpR op_ne (pe_prop (pv 5) D.Z.kit.cl hpd GD hr2 bD .nil pass0 rfl) (pe_callB (call_max2 rfl) (by rfl) D.B.max (by decide +kernel) (pa_cons (pe_op op_sub (pe_callB call_len_seq (by rfl) D.B.len PySem.boot_len (pa_cons (pe_call GL hr1 (by rfl) W.L.gL W.T.kp W.bT .nil pass0 (pa_cons (pv 3) pa_nil)) pa_nil)) pe_int) (pa_cons pe_int pa_nil))) (nomark _)))))
          (pss_one (ps_ret pe_bl)) pss_nil)
        (pss_cons (ps_if (PW.pt (pw_or (pt_cmpR op_ne (pe_cmpR (op_ownEq O.eq O.feq GE hr1 O.beq pass0) (pv 5) (pv 6) (nomark _)) (pe_cmpR (op_eqD hr.units) (pe_call GL hr1 (by rfl) W.L.gL W.T.kp W.bT .nil pass0 (pa_cons (pv 3) pa_nil)) (pe_call GL hr1 (by rfl) W.L.gL W.T.kp W.bT .nil pass0 (pa_cons (pv 4) pa_nil)) (nomark _)) (nomark _))
            (pw_or1 (pt_cmpR (op_ownNe O.ne D.Z.kit.hm O.eq O.feq GE hr2 O.beq pass0) (pv 5) (pe_make D.M D.okI hr3 (by rfl) D.Z.mgC D.bM .nil pass0 (pa_cons (pe_op op_catA (pv 3) (pe_tup (pa_cons pe_int pa_nil))) pa_nil)) (nomark _)))))
          (pss_one (ps_ret pe_bl)) pss_nil)
        (pss_cons (ps_if (PW.pt (pw_or (pt_cmpR (op_ownEq O.eq O.feq GE hr1 O.beq pass0) (pv 5) (pv 7) (nomark _)) (pw_or (pt_cmpR (op_ownEq O.eq O.feq GE hr1 O.beq pass0) (pv 5) (pv 3) (nomark _)) (pw_or1 (pt_cmpR (op_ownEq O.eq O.feq GE hr1 O.beq pass0) (pv 5) pe_str (nomark _))))))
          (pss_one (ps_ret pe_bl)) pss_nil)
        (pss_one (ps_for PassesOwn.never rfl (pi_list (pe_lst (pa_cons pe_int (pa_cons (pe_op op_add pe_int (pe_call GK hr1 (by rfl) W.L.gK W.Kk.kp W.bK .nil pass0 (pa_cons (pv 2) (pa_cons pe_int pa_nil)))) (pa_cons (pe_op op_add (pe_op op_pow pe_int pe_int) pe_int) pa_nil))))) (pg_name (i := 8) sc_law.nd rfl (Or.inl rfl))
          (pss_one (ps_if (pt_not (pt_val (pe_call GR hr (by rfl) W.L.gR W.R.kp W.bR .nil pass0 (pa_cons (pv 5) (pa_cons (pv 6) (pa_cons (pv 7) (pa_cons (pv 8) pa_nil))))))) (pss_one (ps_ret pe_bl)) pss_nil)))))))))))
      (pss_one (ps_ret (pe_and (pe_cmpR (op_eqD hr.units) (pe_prop (pe_make0 D.M D.okI hr3 (by rfl) D.Z.mgC D.bM0 D.hd pass0) D.Z.kit.cl D.pc GG hr2 D.bG .nil pass0 rfl) (pe_tup pa_nil) (nomark _))
        (pe_one (pe_cmpR (op_ownEq O.eq O.feq GE hr1 O.beq pass0) (pe_make0 D.M D.okI hr3 (by rfl) D.Z.mgC D.bM0 D.hd pass0) (pe_make D.M D.okI hr3 (by rfl) D.Z.mgC D.bM .nil pass0 (pa_cons (pe_tup (pa_cons pe_int (pa_cons pe_int pa_nil))) pa_nil)) (nomark _)))))), ?_⟩
    obtain ⟨t0, hdv, ht0⟩ := D.dv
    have nfC : PySem.W.notFirst K C (.ref C) = true := by simp [PySem.W.notFirst]
    have nfT : ∀ {T : Value}, PySem.W.subIn K T (.ref C) = some false → PySem.W.notFirst K C T = true := fun {T} h => by unfold PySem.W.notFirst; rw [h]; simp
    have hM : ∀ m : Nat, (0 : Int) ≤ (if (if (8 : Int) < (m : Int) then 8 else (m : Int)) > 1 then (if (8 : Int) < (m : Int) then 8 else (m : Int)) else 1) ∧ (if (if (8 : Int) < (m : Int) then 8 else (m : Int)) > 1 then (if (8 : Int) < (m : Int) then 8 else (m : Int)) else 1) ≤ 8 := fun m => by
      split
      · split <;> omega
      · omega
    refine ⟨_, rfl, a, iz ns, rfl, .inl ha, _, _, rfl, _, _, rfl, _, rfl, ?_⟩
    rw [iz_len]
    obtain ⟨M0, M8⟩ := hM ns.length
    refine ⟨by omega, by omega, ?_⟩
    generalize (if (if (8 : Int) < (ns.length : Int) then 8 else (ns.length : Int)) > 1 then (if (8 : Int) < (ns.length : Int) then 8 else (ns.length : Int)) else 1) = M at M0 M8
    refine for_range (lo := 0) (n := M.toNat) (fun i σ H' => ∃ v1 v2 v3 v4 v5 v6 v7 v8, σ = [some (.ref a), v1, v2, v3, v4, v5, v6, v7, v8] ∧ Same H H') ⟨none, none, none, none, none, none, none, none, rfl, Same.refl _⟩ ?_ ?_
    · rintro i σ H0 hi ⟨v1, v2, v3, v4, v5, v6, v7, v8, rfl, s0⟩
      refine ⟨_, rfl, _, rfl, a, ns, i, by rw [Int.zero_add]; rfl, s0.seq ha, by omega, hl, fun p H1 hp0 s1 hP1 => ?_⟩
      refine ⟨_, rfl, p, rfl, hP1, fun t1 H2 xs hxl hxm ht1 hP2 b2 => ?_⟩
      refine ⟨_, rfl, p, rfl, hP2, fun t2 H3 ys hyl hym ht2 hP3 b3 => ⟨_, _, rfl, ?_⟩⟩
      have ht1 := tup_but hP2 b3 ht1
      have s3 := same_but hp0 s1 (b2.trans b3)
      refine ⟨_, rfl, fun x1 dx1 nx nd ne => ⟨x1, dx1, t1, xs, rfl, upd_same, upd2_tup (.of ht1) nx nd ne, by omega, fun H4 m4 z1 => ⟨rfl, ?_⟩⟩⟩
      have S4 : Same H3 H4 := Same.made nx nd m4
      refine ⟨_, rfl, fun x2 dx2 nx2 nd2 ne2 => ⟨x2, dx2, t2, ys, rfl, upd_same, upd2_tup (.of (S4 _ _ ht2)) nx2 nd2 ne2, by omega, fun H5 m5 z2 => ⟨rfl, ?_⟩⟩⟩
      have S5 : Same H4 H5 := Same.made nx2 nd2 m5
      refine ⟨3, rfl, _, _, rfl, rfl, ⟨by decide, by decide, by decide⟩, smallL (by show 4 ≤ 10000; decide), fun Mm hMm => ?_⟩
      have S6 : Same H5 (upd H5 Mm (.lst (iz [0, 1, -3, 10 ^ 20]))) := Same.new hMm
      have S36 := (S4.trans S5).trans S6
      have hP6 := hP3.same S36
      refine ⟨_, rfl, p, 4, rfl, hP6, by decide, by decide, fun r H7 r0 r1 hP7 b7 _ => ?_⟩
      have hz : r.toNat < ([0, 1, -3, 10 ^ 20] : List Int).length := by show _ < 4; omega
      have hv : ([0, 1, -3, 10 ^ 20] : List Int)[r.toNat]? = some (([0, 1, -3, 10 ^ 20] : List Int)[r.toNat]) := List.getElem?_eq_getElem hz
      have ham : (([0, 1, -3, 10 ^ 20] : List Int)[r.toNat]).natAbs < 2 ^ 101 := (by decide : ∀ x ∈ ([0, 1, -3, 10 ^ 20] : List Int), x.natAbs < 2 ^ 101) _ (List.getElem_mem hz)
      have hMp : Mm ≠ p := fun e => by
        obtain ⟨u, v, e1, _⟩ := hP3.same (S4.trans S5)
        rw [e, e1] at hMm; cases hMm
      refine ⟨Mm, iz [0, 1, -3, 10 ^ 20], r, _, rfl, rfl, .of (b7 _ _ upd_same hMp), at_of (j := r.toNat) (by omega) (iz_get hv), ?_⟩
      generalize ([0, 1, -3, 10 ^ 20] : List Int)[r.toNat] = am at ham
      refine ⟨_, _, _, rfl, ?_⟩
      have s7 := same_but hp0 (s1.trans (Same.refl _)) ((b2.trans b3).trans ((But.of S36).trans b7))
      have z1 := (z1.same (S5.trans S6)).but hP6 b7
      have z2 := (z2.same S6).but hP6 b7
      have ht1 := tup_but hP6 b7 (S36 _ _ ht1)
      have ht2 := tup_but hP6 b7 (S36 _ _ ht2)
      have s7 := s0.trans s7
      clear b7 hP6 S36 S6 S5 S4 m4 m5 b3 b2 hP3 hP2 hP1 hv hz hMp hMm
      obtain ⟨d1, f1, hx1, hf1⟩ := id z1
      obtain ⟨d2, f2, hx2, hf2⟩ := id z2
      have zt := Nat.le_trans (trim_len xs) hxl
      have yt := Nat.le_trans (trim_len ys) hyl
      -- coefficients, degree
      refine ⟨_, rfl, x1, d1, _, rfl, hx1, x1, trim xs, rfl, z1, fun u1 hu1 => ⟨_, rfl, t1, xs, rfl, .of ht1, by omega, fun p8 H8 s8 hp8 => ⟨dI (trim xs), dI (trim xs), dp_ints (s8.tup hu1), dp_ints hp8, shaped_ints _, shaped_ints _, _, rfl, ?_⟩⟩⟩
      rw [eqv_ints, decide_eq_true rfl]
      refine iteF ?_
      refine ⟨_, rfl, x1, d1, _, rfl, s8 _ _ hx1, x1, trim xs, rfl, z1.same s8, ?_⟩
      refine ⟨_, rfl, t1, xs, rfl, .of (s8 _ _ ht1), by omega, fun p9 H9 s9 hp9 => ⟨p9, iz (trim xs), rfl, .inr hp9, _, _, rfl, rfl, _, _, rfl, rfl, _, rfl, ?_⟩⟩
      rw [iz_len]
      have e9 : (if (0 : Int) > ((trim xs).length : Int) - 1 then (0 : Int) else ((trim xs).length : Int) - 1) = (((trim xs).length - 1 : Nat) : Int) := by split <;> omega
      rw [e9]
      refine dec_self ?_
      have s79 := s8.trans s9
      -- equality
      refine ⟨_, rfl, _, rfl, x1, d1, _, .ref C, rfl, s79 _ _ hx1, D.Z.kit.ty (s79 _ _ hx2), nfC, x1, .ref x2, trim xs, rfl, z1.same s79, .inl ⟨x2, trim ys, rfl, z2.same s79, _, rfl, ?_⟩⟩
      refine ⟨_, rfl, t1, xs, rfl, .of (s79 _ _ ht1), by omega, fun pa Ha sa hpa => ⟨_, rfl, t2, ys, rfl, .of (sa _ _ (s79 _ _ ht2)), by omega, fun pb Hb sb hpb => ⟨dI (trim xs), dI (trim ys), dp_ints (sb.tup hpa), dp_ints hpb, shaped_ints _, shaped_ints _, rfl, _, rfl, ?_⟩⟩⟩
      rw [eqv_ints]
      refine iteNS rfl ?_
      have s7b := (s79.trans sa).trans sb
      refine ⟨_, rfl, _, rfl, by show 1 ≤ sizeLine; decide, fun tt htt => ?_⟩
      have s7c := s7b.upN (o := .tup [.int 0]) htt
      refine ⟨t1, tt, iz xs, [.int 0], rfl, rfl, .of (s7c _ _ ht1), .of upd_same, by rw [iz_len]; exact smallL (by show _ + 1 ≤ 10000; omega), fun e => ?_, fun e1 e2 => absurd e2 (by simp), fun e1 e2 q hq => ?_⟩
      · have e0 : xs = [] := by cases xs with
          | nil => rfl
          | cons c r => cases e
        refine fun x3 dx3 nx3 nd3 ne3 => ⟨x3, dx3, tt, xs ++ [0], rfl, upd_same, upd2_tup (by rw [e0]; exact L2.SqT.of upd_same) nx3 nd3 ne3, by simp; omega, fun Hm mm zm => ⟨rfl, ?_⟩⟩
        have sm := s7c.trans (Same.made nx3 nd3 mm)
        obtain ⟨d3, f3, hx3, hf3⟩ := id zm
        refine ⟨x1, d1, _, .ref C, rfl, sm _ _ hx1, D.Z.kit.ty hx3, nfC, x1, .ref x3, trim xs, rfl, z1.same sm, .inl ⟨x3, trim (xs ++ [0]), rfl, zm, _, rfl, _, rfl, ?_⟩⟩
        rw [trim_app0, decide_eq_true rfl]
        refine iteF ?_
        refine ⟨_, rfl, _, rfl, x1, d1, _, .type "int", rfl, sm _ _ hx1, .base (.int am), nfT D.Z.intC, x1, .int am, trim xs, rfl, z1.same sm, .inr ⟨.type "int", .base (.int am), by rfl, D.Z.intC, _, rfl, _, rfl, iteF ?_⟩⟩
        refine ⟨_, rfl, _, rfl, x1, d1, _, .type "tuple", rfl, sm _ _ hx1, TyX.tupT (.of (sm _ _ ht1)), nfT O.tup, x1, .ref t1, trim xs, rfl, z1.same sm, .inr ⟨.type "tuple", TyX.tupT (.of (sm _ _ ht1)), by rfl, O.tup, _, rfl, _, rfl, iteF ?_⟩⟩
        refine ⟨_, rfl, x1, d1, _, .type "str", rfl, sm _ _ hx1, .base (.str _), nfT O.str, x1, .str _, trim xs, rfl, z1.same sm, .inr ⟨.type "str", .base (.str _), by rfl, O.str, _, rfl, _, rfl, iteF ?_⟩⟩
        have hPm := hP7.same sm
        refine ⟨_, rfl, p, 9, rfl, hPm, by decide, by decide, fun r2 Hn r20 r21 hPn bn _ => ⟨_, _, rfl, rfl, _, _, rfl, rfl, ⟨by decide, by decide, by decide⟩, _, _, rfl, rfl, smallL (by show 3 ≤ 10000; decide), fun N hN => ?_⟩⟩
        have SH : Same H (upd Hn N (.lst (iz [0, 1 + r2, 10 ^ 30 + 1]))) := (same_but (s0.free hp0) (s7.trans sm) bn).upN hN
        have y1 := ((z1.same sm).but hPm bn).same (Same.new (o := .lst (iz [0, 1 + r2, 10 ^ 30 + 1])) hN)
        have y2 := ((z2.same sm).but hPm bn).same (Same.new (o := .lst (iz [0, 1 + r2, 10 ^ 30 + 1])) hN)
        refine ⟨N, rfl, ⟨_, .of (xs := iz [0, 1 + r2, 10 ^ 30 + 1]) upd_same⟩, for_list (xs := iz [0, 1 + r2, 10 ^ 30 + 1]) (fun j σ H' => ∃ v8, σ = [some (.ref a), some (.int (0 + (i : Int))), some (.ref p), some (.ref t1), some (.ref t2), some (.ref x1), some (.ref x2), some (.int am), v8] ∧ Same (upd Hn N (.lst (iz [0, 1 + r2, 10 ^ 30 + 1]))) H')
          ⟨_, rfl, Same.refl _⟩ (fun j σ H' _ ⟨_, _, s⟩ => .of (s _ _ upd_same)) ?_ ?_⟩
        · rintro j v σ H' hv ⟨v8', rfl, s⟩
          obtain ⟨n, hn, rfl⟩ := of_iz_get hv
          have hnb : n.natAbs < 2 ^ 101 := by
            have hm := List.mem_of_getElem? hn
            simp only [List.mem_cons, List.not_mem_nil, or_false] at hm
            rcases hm with rfl | rfl | rfl
            · decide
            · omega
            · decide
          refine ⟨_, rfl, _, rfl, _, rfl, _, rfl, x1, x2, am, n, trim xs, trim ys, rfl, y1.same s, y2.same s, zt, yt, Bd.trim (fun c hc => menu_bd c (hxm c hc)), Bd.trim (fun c hc => menu_bd c (hym c hc)), ham, hnb, fun H'' s' => ⟨true, rfl, iteF ?_⟩⟩
          exact ⟨_, rfl, s.trans s'⟩
        · rintro σ H' ⟨v8', rfl, s⟩
          exact ⟨_, _, _, _, _, _, _, _, rfl, SH.trans s⟩
      · refine fun x3 dx3 nx3 nd3 ne3 => ⟨x3, dx3, q, xs ++ [0], rfl, upd_same, upd2_tup (by rw [app0]; exact L2.SqT.of upd_same) nx3 nd3 ne3, by simp; omega, fun Hm mm zm => ⟨rfl, ?_⟩⟩
        have sm := (s7c.upN hq).trans (Same.made nx3 nd3 mm)
        obtain ⟨d3, f3, hx3, hf3⟩ := id zm
        refine ⟨x1, d1, _, .ref C, rfl, sm _ _ hx1, D.Z.kit.ty hx3, nfC, x1, .ref x3, trim xs, rfl, z1.same sm, .inl ⟨x3, trim (xs ++ [0]), rfl, zm, _, rfl, _, rfl, ?_⟩⟩
        rw [trim_app0, decide_eq_true rfl]
        refine iteF ?_
        refine ⟨_, rfl, _, rfl, x1, d1, _, .type "int", rfl, sm _ _ hx1, .base (.int am), nfT D.Z.intC, x1, .int am, trim xs, rfl, z1.same sm, .inr ⟨.type "int", .base (.int am), by rfl, D.Z.intC, _, rfl, _, rfl, iteF ?_⟩⟩
        refine ⟨_, rfl, _, rfl, x1, d1, _, .type "tuple", rfl, sm _ _ hx1, TyX.tupT (.of (sm _ _ ht1)), nfT O.tup, x1, .ref t1, trim xs, rfl, z1.same sm, .inr ⟨.type "tuple", TyX.tupT (.of (sm _ _ ht1)), by rfl, O.tup, _, rfl, _, rfl, iteF ?_⟩⟩
        refine ⟨_, rfl, x1, d1, _, .type "str", rfl, sm _ _ hx1, .base (.str _), nfT O.str, x1, .str _, trim xs, rfl, z1.same sm, .inr ⟨.type "str", .base (.str _), by rfl, O.str, _, rfl, _, rfl, iteF ?_⟩⟩
        have hPm := hP7.same sm
        refine ⟨_, rfl, p, 9, rfl, hPm, by decide, by decide, fun r2 Hn r20 r21 hPn bn _ => ⟨_, _, rfl, rfl, _, _, rfl, rfl, ⟨by decide, by decide, by decide⟩, _, _, rfl, rfl, smallL (by show 3 ≤ 10000; decide), fun N hN => ?_⟩⟩
        have SH : Same H (upd Hn N (.lst (iz [0, 1 + r2, 10 ^ 30 + 1]))) := (same_but (s0.free hp0) (s7.trans sm) bn).upN hN
        have y1 := ((z1.same sm).but hPm bn).same (Same.new (o := .lst (iz [0, 1 + r2, 10 ^ 30 + 1])) hN)
        have y2 := ((z2.same sm).but hPm bn).same (Same.new (o := .lst (iz [0, 1 + r2, 10 ^ 30 + 1])) hN)
        refine ⟨N, rfl, ⟨_, .of (xs := iz [0, 1 + r2, 10 ^ 30 + 1]) upd_same⟩, for_list (xs := iz [0, 1 + r2, 10 ^ 30 + 1]) (fun j σ H' => ∃ v8, σ = [some (.ref a), some (.int (0 + (i : Int))), some (.ref p), some (.ref t1), some (.ref t2), some (.ref x1), some (.ref x2), some (.int am), v8] ∧ Same (upd Hn N (.lst (iz [0, 1 + r2, 10 ^ 30 + 1]))) H')
          ⟨_, rfl, Same.refl _⟩ (fun j σ H' _ ⟨_, _, s⟩ => .of (s _ _ upd_same)) ?_ ?_⟩
        · rintro j v σ H' hv ⟨v8', rfl, s⟩
          obtain ⟨n, hn, rfl⟩ := of_iz_get hv
          have hnb : n.natAbs < 2 ^ 101 := by
            have hm := List.mem_of_getElem? hn
            simp only [List.mem_cons, List.not_mem_nil, or_false] at hm
            rcases hm with rfl | rfl | rfl
            · decide
            · omega
            · decide
          refine ⟨_, rfl, _, rfl, _, rfl, _, rfl, x1, x2, am, n, trim xs, trim ys, rfl, y1.same s, y2.same s, zt, yt, Bd.trim (fun c hc => menu_bd c (hxm c hc)), Bd.trim (fun c hc => menu_bd c (hym c hc)), ham, hnb, fun H'' s' => ⟨true, rfl, iteF ?_⟩⟩
          exact ⟨_, rfl, s.trans s'⟩
        · rintro σ H' ⟨v8', rfl, s⟩
          exact ⟨_, _, _, _, _, _, _, _, rfl, SH.trans s⟩
    · rintro σ H' ⟨v1, v2, v3, v4, v5, v6, v7, v8, rfl, s⟩
      refine fun x dx nx nd ne => ?_
      rw [hdv]
      refine ⟨x, dx, t0, [], rfl, upd_same, ht0 _, by decide, fun H3 s3 z3 => ⟨rfl, ?_⟩⟩
      obtain ⟨d3, f3, hx3, hf3⟩ := id z3
      refine ⟨x, d3, _, rfl, hx3, x, trim [], rfl, z3, fun u hu => ⟨by show 0 ≤ sizeLine; decide, fun e he => ⟨dI [], dI [], dp_ints ((Same.new he).tup hu), dp_ints (.of upd_same), shaped_ints _, shaped_ints _, true, ?_, iteT ?_⟩⟩⟩
      · rw [eqv_ints]; rfl
      refine fun x4 dx4 nx4 nd4 ne4 => ?_
      refine ⟨x4, dx4, t0, [], rfl, upd_same, ht0 _, by decide, fun H4 s4 z4 => ⟨rfl, ?_⟩⟩
      refine ⟨by show 2 ≤ sizeLine; decide, fun q hq => fun x5 dx5 nx5 nd5 ne5 => ⟨x5, dx5, q, [0, 0], rfl, upd_same, upd2_tup (.of upd_same) nx5 nd5 ne5, by decide, fun H5 s5 z5 => ⟨rfl, ?_⟩⟩⟩
      have sm := (Same.new (o := .tup [.int 0, .int 0]) hq).trans (Same.made nx5 nd5 s5)
      obtain ⟨d4, f4, hx4, hf4⟩ := id z4
      obtain ⟨d5, f5, hx5, hf5⟩ := id z5
      exact ⟨x4, d4, _, .ref C, rfl, sm _ _ hx4, D.Z.kit.ty hx5, nfC, x4, .ref x5, trim [], rfl, z4.same sm, .inl ⟨x5, trim [0, 0], rfl, z5, _, rfl, k _⟩⟩
end
end K40

namespace K40
open PySem L2 SZ VR StX RT
/-! ### the end -/
theorem all_mk {l : PySem.W.OpenLaw} {w : World} {K : PySem.W.Frag} {h : Heap} {mg : Str → Option Value} {fa C pG pD T1 t0 : Addr} {restG restD : List Value} {dc1 : Value} {dd1 dd2 : Option Addr} {n1 n2 : Nat} {ds1 ds2 : Array (Option Value)} {ia1 ia2 ia3 ia4 ia5 ia6 : Option Value}
    {fT : Addr} {ocT kVT dcT pmT cdT ctT : Value} {odT anT : Option Addr} {slT : Array (Option Value)}
    {fS : Addr} {ocS kVS dcS pmS cdS ctS : Value} {odS anS : Option Addr} {slS : Array (Option Value)}
    {fP : Addr} {ocP kVP dcP pmP cdP ctP : Value} {odP anP : Option Addr} {slP : Array (Option Value)}
    {fN : Addr} {ocN kVN dcN pmN cdN ctN : Value} {odN anN : Option Addr} {slN : Array (Option Value)}
    {fI : Addr} {ocI kVI dcI pmI cdI ctI : Value} {odI anI : Option Addr} {slI : Array (Option Value)}
    {fO : Addr} {ocO kVO dcO pmO cdO ctO : Value} {odO anO : Option Addr} {slO : Array (Option Value)}
    {fA : Addr} {ocA kVA dcA pmA cdA ctA : Value} {odA anA : Option Addr} {slA : Array (Option Value)}
    {fV : Addr} {ocV kVV dcV pmV cdV ctV : Value} {odV anV : Option Addr} {slV : Array (Option Value)}
    {fL : Addr} {ocL kVL dcL pmL cdL ctL : Value} {odL anL : Option Addr} {slL : Array (Option Value)}
    {fR : Addr} {ocR kVR dcR pmR cdR ctR : Value} {odR anR : Option Addr} {slR : Array (Option Value)}
    {fK : Addr} {ocK kVK dcK pmK cdK ctK : Value} {odK anK : Option Addr} {slK : Array (Option Value)}
    {fPl : Addr} {ocPl kVPl dcPl pmPl cdPl ctPl : Value} {odPl anPl : Option Addr} {slPl : Array (Option Value)}
    {fPa : Addr} {ocPa kVPa dcPa pmPa cdPa ctPa : Value} {odPa anPa : Option Addr} {slPa : Array (Option Value)}
    {fW : Addr} {ocW kVW dcW pmW cdW ctW : Value} {odW anW : Option Addr} {slW : Array (Option Value)}
    {fadd : Addr} {ocadd kVadd dcadd pmadd cdadd ctadd : Value} {odadd anadd : Option Addr} {sladd : Array (Option Value)}
    {fsub : Addr} {ocsub kVsub dcsub pmsub cdsub ctsub : Value} {odsub ansub : Option Addr} {slsub : Array (Option Value)}
    {fmul : Addr} {ocmul kVmul dcmul pmmul cdmul ctmul : Value} {odmul anmul : Option Addr} {slmul : Array (Option Value)}
    {fneg : Addr} {ocneg kVneg dcneg pmneg cdneg ctneg : Value} {odneg anneg : Option Addr} {slneg : Array (Option Value)}
    {fcall : Addr} {occall kVcall dccall pmcall cdcall ctcall : Value} {odcall ancall : Option Addr} {slcall : Array (Option Value)}
    {feq : Addr} {oceq kVeq dceq pmeq cdeq cteq : Value} {odeq aneq : Option Addr} {sleq : Array (Option Value)}
    {fM : Addr} {ocM kVM dcM pmM cdM ctM : Value} {odM anM : Option Addr} {slM : Array (Option Value)}
    {fG : Addr} {ocG kVG dcG pmG cdG ctG : Value} {odG anG : Option Addr} {slG : Array (Option Value)}
    {fD : Addr} {ocD kVD dcD pmD cdD ctD : Value} {odD anD : Option Addr} {slD : Array (Option Value)}
    (X : K.In h) (G : h.Ns mainGlobals mg) (hfa : mg "law" = some (.ref fa))
    (aT : PySem.W.nsIn K mainGlobals "_trimmed" = some (some (.ref fT)))
    (lT : K.lookup fT = some ⟨ocT, odT, .func (PySem.W.fnOf "_trimmed" "_trimmed" (defArgs S_trimmed) (defBody S_trimmed) (defScope S_trimmed) .none kVT dcT pmT anT cdT ctT), slT⟩)
    (cT : PySem.W.codeIn K cdT "_trimmed" = true)
    (kT : PySem.W.keepIn K (.ref fT) = true)
    (aS : PySem.W.nsIn K mainGlobals "_sum" = some (some (.ref fS)))
    (lS : K.lookup fS = some ⟨ocS, odS, .func (PySem.W.fnOf "_sum" "_sum" (defArgs S_sum) (defBody S_sum) (defScope S_sum) .none kVS dcS pmS anS cdS ctS), slS⟩)
    (cS : PySem.W.codeIn K cdS "_sum" = true)
    (kS : PySem.W.keepIn K (.ref fS) = true)
    (aP : PySem.W.nsIn K mainGlobals "_product" = some (some (.ref fP)))
    (lP : K.lookup fP = some ⟨ocP, odP, .func (PySem.W.fnOf "_product" "_product" (defArgs S_product) (defBody S_product) (defScope S_product) .none kVP dcP pmP anP cdP ctP), slP⟩)
    (cP : PySem.W.codeIn K cdP "_product" = true)
    (kP : PySem.W.keepIn K (.ref fP) = true)
    (aN : PySem.W.nsIn K mainGlobals "_negative" = some (some (.ref fN)))
    (lN : K.lookup fN = some ⟨ocN, odN, .func (PySem.W.fnOf "_negative" "_negative" (defArgs S_negative) (defBody S_negative) (defScope S_negative) .none kVN dcN pmN anN cdN ctN), slN⟩)
    (cN : PySem.W.codeIn K cdN "_negative" = true)
    (kN : PySem.W.keepIn K (.ref fN) = true)
    (aI : PySem.W.nsIn K mainGlobals "is_integer" = some (some (.ref fI)))
    (lI : K.lookup fI = some ⟨ocI, odI, .func (PySem.W.fnOf "is_integer" "is_integer" (defArgs S_is_integer) (defBody S_is_integer) (defScope S_is_integer) .none kVI dcI pmI anI cdI ctI), slI⟩)
    (cI : PySem.W.codeIn K cdI "is_integer" = true)
    (kI : PySem.W.keepIn K (.ref fI) = true)
    (aO : PySem.W.nsIn K mainGlobals "_is_operand" = some (some (.ref fO)))
    (lO : K.lookup fO = some ⟨ocO, odO, .func (PySem.W.fnOf "_is_operand" "_is_operand" (defArgs S_is_operand) (defBody S_is_operand) (defScope S_is_operand) .none kVO dcO pmO anO cdO ctO), slO⟩)
    (cO : PySem.W.codeIn K cdO "_is_operand" = true)
    (kO : PySem.W.keepIn K (.ref fO) = true)
    (aA : PySem.W.nsIn K mainGlobals "_parts_of" = some (some (.ref fA)))
    (lA : K.lookup fA = some ⟨ocA, odA, .func (PySem.W.fnOf "_parts_of" "_parts_of" (defArgs S_parts_of) (defBody S_parts_of) (defScope S_parts_of) .none kVA dcA pmA anA cdA ctA), slA⟩)
    (cA : PySem.W.codeIn K cdA "_parts_of" = true)
    (kA : PySem.W.keepIn K (.ref fA) = true)
    (aV : PySem.W.nsIn K mainGlobals "_law_value" = some (some (.ref fV)))
    (lV : K.lookup fV = some ⟨ocV, odV, .func (PySem.W.fnOf "_law_value" "_law_value" (defArgs S_law_value) (defBody S_law_value) (defScope S_law_value) .none kVV dcV pmV anV cdV ctV), slV⟩)
    (cV : PySem.W.codeIn K cdV "_law_value" = true)
    (kV : PySem.W.keepIn K (.ref fV) = true)
    (aL : PySem.W.nsIn K mainGlobals "_law_trimmed" = some (some (.ref fL)))
    (lL : K.lookup fL = some ⟨ocL, odL, .func (PySem.W.fnOf "_law_trimmed" "_law_trimmed" (defArgs S_law_trimmed) (defBody S_law_trimmed) (defScope S_law_trimmed) .none kVL dcL pmL anL cdL ctL), slL⟩)
    (cL : PySem.W.codeIn K cdL "_law_trimmed" = true)
    (kL : PySem.W.keepIn K (.ref fL) = true)
    (aR : PySem.W.nsIn K mainGlobals "_law_right" = some (some (.ref fR)))
    (lR : K.lookup fR = some ⟨ocR, odR, .func (PySem.W.fnOf "_law_right" "_law_right" (defArgs S_law_right) (defBody S_law_right) (defScope S_law_right) .none kVR dcR pmR anR cdR ctR), slR⟩)
    (cR : PySem.W.codeIn K cdR "_law_right" = true)
    (kR : PySem.W.keepIn K (.ref fR) = true)
    (aK : PySem.W.nsIn K mainGlobals "_law_take" = some (some (.ref fK)))
    (lK : K.lookup fK = some ⟨ocK, odK, .func (PySem.W.fnOf "_law_take" "_law_take" (defArgs S_law_take) (defBody S_law_take) (defScope S_law_take) .none kVK dcK pmK anK cdK ctK), slK⟩)
    (cK : PySem.W.codeIn K cdK "_law_take" = true)
    (kK : PySem.W.keepIn K (.ref fK) = true)
    (aPl : PySem.W.nsIn K mainGlobals "_law_pool" = some (some (.ref fPl)))
    (lPl : K.lookup fPl = some ⟨ocPl, odPl, .func (PySem.W.fnOf "_law_pool" "_law_pool" (defArgs S_law_pool) (defBody S_law_pool) (defScope S_law_pool) .none kVPl dcPl pmPl anPl cdPl ctPl), slPl⟩)
    (cPl : PySem.W.codeIn K cdPl "_law_pool" = true)
    (kPl : PySem.W.keepIn K (.ref fPl) = true)
    (aPa : PySem.W.nsIn K mainGlobals "_law_parts" = some (some (.ref fPa)))
    (lPa : K.lookup fPa = some ⟨ocPa, odPa, .func (PySem.W.fnOf "_law_parts" "_law_parts" (defArgs S_law_parts) (defBody S_law_parts) (defScope S_law_parts) .none kVPa dcPa pmPa anPa cdPa ctPa), slPa⟩)
    (cPa : PySem.W.codeIn K cdPa "_law_parts" = true)
    (kPa : PySem.W.keepIn K (.ref fPa) = true)
    (aW : PySem.W.nsIn K mainGlobals "law" = some (some (.ref fW)))
    (lW : K.lookup fW = some ⟨ocW, odW, .func (PySem.W.fnOf "law" "law" (defArgs S_law) (defBody S_law) (defScope S_law) .none kVW dcW pmW anW cdW ctW), slW⟩)
    (cW : PySem.W.codeIn K cdW "law" = true)
    (kW : PySem.W.keepIn K (.ref fW) = true)
    (aC : PySem.W.nsIn K mainGlobals "Size" = some (some (.ref C)))
    (aadd : PySem.W.findIn K (.ref C) "__add__" = some (some (.ref fadd)))
    (iadd : PySem.W.isFn K (.ref fadd) = true)
    (ladd : K.lookup fadd = some ⟨ocadd, odadd, .func (PySem.W.fnOf "__add__" "Size.__add__" (defArgs S_Size___add__) (defBody S_Size___add__) (defScope S_Size___add__) .none kVadd dcadd pmadd anadd cdadd ctadd), sladd⟩)
    (cadd : PySem.W.codeIn K cdadd "Size.__add__" = true)
    (kadd : PySem.W.keepIn K (.ref fadd) = true)
    (asub : PySem.W.findIn K (.ref C) "__sub__" = some (some (.ref fsub)))
    (isub : PySem.W.isFn K (.ref fsub) = true)
    (lsub : K.lookup fsub = some ⟨ocsub, odsub, .func (PySem.W.fnOf "__sub__" "Size.__sub__" (defArgs S_Size___sub__) (defBody S_Size___sub__) (defScope S_Size___sub__) .none kVsub dcsub pmsub ansub cdsub ctsub), slsub⟩)
    (csub : PySem.W.codeIn K cdsub "Size.__sub__" = true)
    (ksub : PySem.W.keepIn K (.ref fsub) = true)
    (amul : PySem.W.findIn K (.ref C) "__mul__" = some (some (.ref fmul)))
    (imul : PySem.W.isFn K (.ref fmul) = true)
    (lmul : K.lookup fmul = some ⟨ocmul, odmul, .func (PySem.W.fnOf "__mul__" "Size.__mul__" (defArgs S_Size___mul__) (defBody S_Size___mul__) (defScope S_Size___mul__) .none kVmul dcmul pmmul anmul cdmul ctmul), slmul⟩)
    (cmul : PySem.W.codeIn K cdmul "Size.__mul__" = true)
    (kmul : PySem.W.keepIn K (.ref fmul) = true)
    (aneg : PySem.W.findIn K (.ref C) "__neg__" = some (some (.ref fneg)))
    (ineg : PySem.W.isFn K (.ref fneg) = true)
    (lneg : K.lookup fneg = some ⟨ocneg, odneg, .func (PySem.W.fnOf "__neg__" "Size.__neg__" (defArgs S_Size___neg__) (defBody S_Size___neg__) (defScope S_Size___neg__) .none kVneg dcneg pmneg anneg cdneg ctneg), slneg⟩)
    (cneg : PySem.W.codeIn K cdneg "Size.__neg__" = true)
    (kneg : PySem.W.keepIn K (.ref fneg) = true)
    (acall : PySem.W.findIn K (.ref C) "__call__" = some (some (.ref fcall)))
    (icall : PySem.W.isFn K (.ref fcall) = true)
    (lcall : K.lookup fcall = some ⟨occall, odcall, .func (PySem.W.fnOf "__call__" "Size.__call__" (defArgs S_Size___call__) (defBody S_Size___call__) (defScope S_Size___call__) .none kVcall dccall pmcall ancall cdcall ctcall), slcall⟩)
    (ccall : PySem.W.codeIn K cdcall "Size.__call__" = true)
    (kcall : PySem.W.keepIn K (.ref fcall) = true)
    (aeq : PySem.W.findIn K (.ref C) "__eq__" = some (some (.ref feq)))
    (ieq : PySem.W.isFn K (.ref feq) = true)
    (leq : K.lookup feq = some ⟨oceq, odeq, .func (PySem.W.fnOf "__eq__" "Size.__eq__" (defArgs S_Size___eq__) (defBody S_Size___eq__) (defScope S_Size___eq__) .none kVeq dceq pmeq aneq cdeq cteq), sleq⟩)
    (ceq : PySem.W.codeIn K cdeq "Size.__eq__" = true)
    (keq : PySem.W.keepIn K (.ref feq) = true)
    (aM : PySem.W.findIn K (.ref C) "__init__" = some (some (.ref fM)))
    (iM : PySem.W.isFn K (.ref fM) = true)
    (lM : K.lookup fM = some ⟨ocM, odM, .func (PySem.W.fnOf "__init__" "Size.__init__" (defArgs S_Size___init__) (defBody S_Size___init__) (defScope S_Size___init__) (.ref T1) kVM dcM pmM anM cdM ctM), slM⟩)
    (cM : PySem.W.codeIn K cdM "Size.__init__" = true)
    (kM : PySem.W.keepIn K (.ref fM) = true)
    (d1 : K.lookup T1 = some ⟨dc1, dd1, .seq #[.ref t0] n1, ds1⟩)
    (d2 : K.lookup t0 = some ⟨.type "tuple", dd2, .seq #[] n2, ds2⟩)
    (paG : PySem.W.findIn K (.ref C) "coefficients" = some (some (.ref pG)))
    (pgG : PySem.W.specialIn K (.ref pG) "__get__" = some (some (.builtin "property.__get__")))
    (ptG : PySem.W.takesIn K (.ref pG) = some true)
    (prG : PySem.W.recIn K pG "property" = some (.ref fG :: restG))
    (lG : K.lookup fG = some ⟨ocG, odG, .func (PySem.W.fnOf "coefficients" "Size.coefficients" (defArgs S_Size_coefficients) (defBody S_Size_coefficients) (defScope S_Size_coefficients) .none kVG dcG pmG anG cdG ctG), slG⟩)
    (cG : PySem.W.codeIn K cdG "Size.coefficients" = true)
    (kG : PySem.W.keepIn K (.ref fG) = true)
    (paD : PySem.W.findIn K (.ref C) "degree" = some (some (.ref pD)))
    (pgD : PySem.W.specialIn K (.ref pD) "__get__" = some (some (.builtin "property.__get__")))
    (ptD : PySem.W.takesIn K (.ref pD) = some true)
    (prD : PySem.W.recIn K pD "property" = some (.ref fD :: restD))
    (lD : K.lookup fD = some ⟨ocD, odD, .func (PySem.W.fnOf "degree" "Size.degree" (defArgs S_Size_degree) (defBody S_Size_degree) (defScope S_Size_degree) .none kVD dcD pmD anD cdD ctD), slD⟩)
    (cD : PySem.W.codeIn K cdD "Size.degree" = true)
    (kD : PySem.W.keepIn K (.ref fD) = true)
    (pg : PySem.W.plainGet K C Str.empty = true)
    (hd : PySem.W.hasDictIn K C = true)
    (po : PySem.W.plainOver K C = true)
    (sa : PySem.W.findIn K (.ref C) "__setattr__" = some (some (.builtin "object.__setattr__")))
    (mk : PySem.W.makesIn K C = true)
    (kc : PySem.W.keepIn K (.ref C) = true)
    (cc : PySem.W.findIn K (.ref C) "__class__" = some (some (.builtin "object.__class__")))
    (cg : PySem.W.specialIn K (.builtin "object.__class__") "__get__" = some (some (.builtin "getset_descriptor.__get__")))
    (ct : PySem.W.takesIn K (.builtin "object.__class__") = some true)
    (cm : PySem.W.mroIn K C (.type "object") = some true)
    (np : PySem.W.findIn K (.ref C) "_parts" = some none)
    (ic : PySem.W.isClsIn K C = true)
    (tc : PySem.W.typeIn K (.ref C) = some (.type "type"))
    (si : PySem.W.subIn K (.type "int") (.ref C) = some false)
    (st : PySem.W.subIn K (.type "tuple") (.ref C) = some false)
    (ss : PySem.W.subIn K (.type "str") (.ref C) = some false)
    (sf : PySem.W.selfFirst K C = true)
    (ra : PySem.W.findIn K (.ref C) "__radd__" = some none)
    (rs : PySem.W.findIn K (.ref C) "__rsub__" = some none)
    (rm : PySem.W.findIn K (.ref C) "__rmul__" = some none)
    (ia : PySem.W.findIn K (.type "int") "__add__" = some ia1)
    (ib : PySem.W.findIn K (.type "int") "__radd__" = some ia2)
    (is1 : PySem.W.findIn K (.type "int") "__sub__" = some ia3)
    (is2 : PySem.W.findIn K (.type "int") "__rsub__" = some ia4)
    (im1 : PySem.W.findIn K (.type "int") "__mul__" = some ia5)
    (im2 : PySem.W.findIn K (.type "int") "__rmul__" = some ia6)
    (ne : PySem.W.findIn K (.ref C) "__ne__" = some (some (.builtin "object.__ne__")))
    (fi : PySem.W.fnIn K fcall = true)
    (z_len : PySem.W.nsIn K mainGlobals "len" = some none)
    (z_tuple : PySem.W.nsIn K mainGlobals "tuple" = some none)
    (z_max : PySem.W.nsIn K mainGlobals "max" = some none)
    (z_enumerate : PySem.W.nsIn K mainGlobals "enumerate" = some none)
    (z_reversed : PySem.W.nsIn K mainGlobals "reversed" = some none)
    (z_isinstance : PySem.W.nsIn K mainGlobals "isinstance" = some none)
    (z_int : PySem.W.nsIn K mainGlobals "int" = some none)
    (z_bool : PySem.W.nsIn K mainGlobals "bool" = some none)
    (z_abs : PySem.W.nsIn K mainGlobals "abs" = some none)
    (z_range : PySem.W.nsIn K mainGlobals "range" = some none)
    (z_list : PySem.W.nsIn K mainGlobals "list" = some none)
    (z_min : PySem.W.nsIn K mainGlobals "min" = some none) :
    ∃ fd : FuncData, (∀ (s : Shared) (v : Value), BindsTo s fd ⟨[v], []⟩ [("_law_script", v)]) ∧ ∀ base : Heap, K.In base → base.Ns mainGlobals mg → FnOk l.prog w K mg base CX0 7 fa fd ["_law_script"] (spLaw K) := by
  have e := hfa.symm.trans (PySem.W.mg_of X G aW)
  cases e
  have FT := fun_mk (x := "_trimmed") (qual := "_trimmed") (st := S_trimmed) lT cT kT
  have bT := FT.binds (ps := ["parts"]) fun _ _ _ _ _ _ us hl => match us, hl with | [_], _ => rfl
  have FS := fun_mk (x := "_sum") (qual := "_sum") (st := S_sum) lS cS kS
  have bS := FS.binds (ps := ["one", "other"]) fun _ _ _ _ _ _ us hl => match us, hl with | [_, _], _ => rfl
  have FP := fun_mk (x := "_product") (qual := "_product") (st := S_product) lP cP kP
  have bP := FP.binds (ps := ["one", "other"]) fun _ _ _ _ _ _ us hl => match us, hl with | [_, _], _ => rfl
  have FN := fun_mk (x := "_negative") (qual := "_negative") (st := S_negative) lN cN kN
  have bN := FN.binds (ps := ["parts"]) fun _ _ _ _ _ _ us hl => match us, hl with | [_], _ => rfl
  have FI := fun_mk (x := "is_integer") (qual := "is_integer") (st := S_is_integer) lI cI kI
  have bI := FI.binds (ps := ["value"]) fun _ _ _ _ _ _ us hl => match us, hl with | [_], _ => rfl
  have FO := fun_mk (x := "_is_operand") (qual := "_is_operand") (st := S_is_operand) lO cO kO
  have bO := FO.binds (ps := ["value"]) fun _ _ _ _ _ _ us hl => match us, hl with | [_], _ => rfl
  have FA := fun_mk (x := "_parts_of") (qual := "_parts_of") (st := S_parts_of) lA cA kA
  have bA := FA.binds (ps := ["operand"]) fun _ _ _ _ _ _ us hl => match us, hl with | [_], _ => rfl
  have FV := fun_mk (x := "_law_value") (qual := "_law_value") (st := S_law_value) lV cV kV
  have bV := FV.binds (ps := ["_law_parts_here", "_law_n"]) fun _ _ _ _ _ _ us hl => match us, hl with | [_, _], _ => rfl
  have FL := fun_mk (x := "_law_trimmed") (qual := "_law_trimmed") (st := S_law_trimmed) lL cL kL
  have bL := FL.binds (ps := ["_law_parts_here"]) fun _ _ _ _ _ _ us hl => match us, hl with | [_], _ => rfl
  have FR := fun_mk (x := "_law_right") (qual := "_law_right") (st := S_law_right) lR cR kR
  have bR := FR.binds (ps := ["_law_one", "_law_other", "_law_amount", "_law_n"]) fun _ _ _ _ _ _ us hl => match us, hl with | [_, _, _, _], _ => rfl
  have FK := fun_mk (x := "_law_take") (qual := "_law_take") (st := S_law_take) lK cK kK
  have bK := FK.binds (ps := ["_law_pool_here", "_law_wide"]) fun _ _ _ _ _ _ us hl => match us, hl with | [_, _], _ => rfl
  have FPl := fun_mk (x := "_law_pool") (qual := "_law_pool") (st := S_law_pool) lPl cPl kPl
  have bPl := FPl.binds (ps := ["_law_script", "_law_k"]) fun _ _ _ _ _ _ us hl => match us, hl with | [_, _], _ => rfl
  have FPa := fun_mk (x := "_law_parts") (qual := "_law_parts") (st := S_law_parts) lPa cPa kPa
  have bPa := FPa.binds (ps := ["_law_pool_here"]) fun _ _ _ _ _ _ us hl => match us, hl with | [_], _ => rfl
  have FW := fun_mk (x := "law") (qual := "law") (st := S_law) lW cW kW
  have bW := FW.binds (ps := ["_law_script"]) fun _ _ _ _ _ _ us hl => match us, hl with | [_], _ => rfl
  have Fadd := fun_mk (x := "__add__") (qual := "Size.__add__") (st := S_Size___add__) ladd cadd kadd
  have badd := Fadd.binds (ps := ["self", "other"]) fun _ _ _ _ _ _ us hl => match us, hl with | [_, _], _ => rfl
  have Fsub := fun_mk (x := "__sub__") (qual := "Size.__sub__") (st := S_Size___sub__) lsub csub ksub
  have bsub := Fsub.binds (ps := ["self", "other"]) fun _ _ _ _ _ _ us hl => match us, hl with | [_, _], _ => rfl
  have Fmul := fun_mk (x := "__mul__") (qual := "Size.__mul__") (st := S_Size___mul__) lmul cmul kmul
  have bmul := Fmul.binds (ps := ["self", "other"]) fun _ _ _ _ _ _ us hl => match us, hl with | [_, _], _ => rfl
  have Fneg := fun_mk (x := "__neg__") (qual := "Size.__neg__") (st := S_Size___neg__) lneg cneg kneg
  have bneg := Fneg.binds (ps := ["self"]) fun _ _ _ _ _ _ us hl => match us, hl with | [_], _ => rfl
  have Fcall := fun_mk (x := "__call__") (qual := "Size.__call__") (st := S_Size___call__) lcall ccall kcall
  have bcall := Fcall.binds (ps := ["self", "n"]) fun _ _ _ _ _ _ us hl => match us, hl with | [_, _], _ => rfl
  have Feq := fun_mk (x := "__eq__") (qual := "Size.__eq__") (st := S_Size___eq__) leq ceq keq
  have beq := Feq.binds (ps := ["self", "other"]) fun _ _ _ _ _ _ us hl => match us, hl with | [_, _], _ => rfl
  have FG := fun_mk (x := "coefficients") (qual := "Size.coefficients") (st := S_Size_coefficients) lG cG kG
  have bG := FG.binds (ps := ["self"]) fun _ _ _ _ _ _ us hl => match us, hl with | [_], _ => rfl
  have PG : PropOf K C "coefficients" pG fG := ⟨paG, pgG, ptG, ⟨_, prG⟩⟩
  have FD := fun_mk (x := "degree") (qual := "Size.degree") (st := S_Size_degree) lD cD kD
  have bD := FD.binds (ps := ["self"]) fun _ _ _ _ _ _ us hl => match us, hl with | [_], _ => rfl
  have PD : PropOf K C "degree" pD fD := ⟨paD, pgD, ptD, ⟨_, prD⟩⟩
  have FM : FunD K "__init__" "Size.__init__" (defArgs S_Size___init__) (defBody S_Size___init__) (defScope S_Size___init__) [.ref t0] [] fM (PySem.W.fnOf "__init__" "Size.__init__" (defArgs S_Size___init__) (defBody S_Size___init__) (defScope S_Size___init__) (.ref T1) kVM dcM pmM anM cdM ctM) :=
    ⟨⟨_, _, _, _, _, _, _, _, _, _, rfl, lM, cM, .inr ⟨by simp, T1, _, [.ref t0], _, rfl, d1, rfl, .cons rfl .nil⟩, .inl rfl⟩, kM⟩
  obtain ⟨e1, r1, bM1⟩ := FM.binds1 (ps := ["self", "parts"]) 1 0 (by simp) rfl (fun _ _ _ _ _ _ _ us its hl hi => match us, its, hl, hi with | [_], [_], _, _ => ⟨_, rfl, rfl⟩)
  obtain ⟨e2, r2, bM2⟩ := FM.binds1 (ps := ["self", "parts"]) 2 1 (by simp) rfl (fun _ _ _ _ _ _ _ us its hl hi => match us, its, hl, hi with | [_, _], [_], _, _ => ⟨_, rfl, rfl⟩)
  cases r2
  have kit : InsKit K C := ⟨⟨pg, hd, po, sa⟩, cc, cg, ct, cm⟩
  have B : Bn mg := ⟨PySem.W.mg_none_of X G z_len, PySem.W.mg_none_of X G z_tuple, PySem.W.mg_none_of X G z_max, PySem.W.mg_none_of X G z_enumerate, PySem.W.mg_none_of X G z_reversed, PySem.W.mg_none_of X G z_isinstance, PySem.W.mg_none_of X G z_int, PySem.W.mg_none_of X G z_bool⟩
  have Z : SzC K mg C fT fS fP fN fI fO fA := ⟨kit, np, ic, tc, si, PySem.W.mg_of X G aC, PySem.W.mg_of X G aT, PySem.W.mg_of X G aS, PySem.W.mg_of X G aP, PySem.W.mg_of X G aN, PySem.W.mg_of X G aI, PySem.W.mg_of X G aO, PySem.W.mg_of X G aA⟩
  have D : SzDefs K mg C fT fS fP fN fI fO fA fM _ _ _ _ _ _ _ _ _ pG fG [.ref t0] e1 := { Z := Z, B := B, T := FT, bT := bT, S := FS, bS := bS, P := FP, bP := bP, N := FN, bN := bN, I := FI, bI := bI, O := FO, bO := bO, A := FA, bA := bA, M := ⟨mk, aM, iM, kc⟩, FM := FM, bM := bM2, bM0 := bM1, hd := r1, dv := ⟨t0, rfl, fun H => .inr ⟨_, #[], _, d2, rfl, rfl, by decide, .nil⟩⟩, pc := PG, G := FG, bG := bG }
  have bo : ∀ {nm : String} {f : Addr} {x r : Str} {fo ro : Option Value}, PySem.dunder nm = x → dunderR nm = r → PySem.W.findIn K (.ref C) x = some (some (.ref f)) → PySem.W.isFn K (.ref f) = true → PySem.W.findIn K (.ref C) r = some none → PySem.W.findIn K (.type "int") x = some fo → PySem.W.findIn K (.type "int") r = some ro → BinOwn K C nm f :=
    fun {nm f x r fo ro} e1 e2 h1 h2 h3 h4 h5 => { sf := sf, hs := by rw [e1]; exact h1, hf := h2, hr := by rw [e2]; exact h3, ti := ⟨fo, ro, by rw [e1]; exact h4, by rw [e2]; exact h5⟩, su := si }
  have O : SzOps K C fadd fsub fmul fneg fcall feq _ _ _ _ _ _ := { add := bo (by decide +kernel) (by decide +kernel) aadd iadd ra ia ib, sub := bo (by decide +kernel) (by decide +kernel) asub isub rs is1 is2, mul := bo (by decide +kernel) (by decide +kernel) amul imul rm im1 im2, Fadd := Fadd, Fsub := Fsub, Fmul := Fmul, Fneg := Fneg, Fcall := Fcall, Feq := Feq, badd := badd, bsub := bsub, bmul := bmul, bneg := bneg, bcall := bcall, beq := beq, neg := aneg, fneg := ineg, call := ⟨acall, icall, fi⟩, eq := aeq, feq := ieq, ne := ne, tup := st, str := ss }
  have L : LawBn mg fV fL fR fK fPl fPa := { b2 := ⟨PySem.W.mg_none_of X G z_len, PySem.W.mg_none_of X G z_int, PySem.W.mg_none_of X G z_abs⟩, b3 := ⟨PySem.W.mg_none_of X G z_range, PySem.W.mg_none_of X G z_tuple, PySem.W.mg_none_of X G z_list⟩, gV := PySem.W.mg_of X G aV, gL := PySem.W.mg_of X G aL, gR := PySem.W.mg_of X G aR, gK := PySem.W.mg_of X G aK, gPl := PySem.W.mg_of X G aPl, gPa := PySem.W.mg_of X G aPa, mn := PySem.W.mg_none_of X G z_min }
  have WD : LawDefs K mg fV fL fR fK fPl fPa _ _ _ _ _ _ := { L := L, V := FV, bV := bV, T := FL, bT := bL, R := FR, bR := bR, Kk := FK, bK := bK, Pl := FPl, bPl := bPl, Pa := FPa, bPa := bPa }
  exact ⟨_, fun s v => .of_eq rfl, fun base _ _ => ok_law FW D O WD PD FD bD⟩
end K40
open PySem PySem.W PyProof.Rows
set_option maxRecDepth 100000 in
set_option maxHeartbeats 0 in
theorem PySem.Challenge.cw_farmisses_k40_sums_of_sizes_holds : PySem.Challenge.rw_farmisses_k40_sums_of_sizes.Holds := by
  w_on; o_law; k_head; (case hw => w_witness2)
  k_fill
  refine L2.walk_ofK (l := PySem.Challenge.rw_farmisses_k40_sums_of_sizes) (n := 63) (k := 7) (x := "_law_script") (CX := L2.CX0) (sp := K40.spLaw) rfl (by decide) rfl ⟨rfl, by decide, by decide⟩ (fun w h Y => PySem.W.kIn_of Y) ?F (fun _ _ a ns hl _ hS => ⟨a, ns, rfl, hS, hl, fun _ => rfl⟩) (fun _ _ _ _ z => z)
  case F =>
    intro w mg fa h KX G hmg
    refine' K40.all_mk KX G hmg ?aT ?lT ?cT ?kT ?aS ?lS ?cS ?kS ?aP ?lP ?cP ?kP ?aN ?lN ?cN ?kN ?aI ?lI ?cI ?kI ?aO ?lO ?cO ?kO ?aA ?lA ?cA ?kA ?aV ?lV ?cV ?kV ?aL ?lL ?cL ?kL ?aR ?lR ?cR ?kR ?aK ?lK ?cK ?kK ?aPl ?lPl ?cPl ?kPl ?aPa ?lPa ?cPa ?kPa ?aW ?lW ?cW ?kW ?aC ?aadd ?iadd ?ladd ?cadd ?kadd ?asub ?isub ?lsub ?csub ?ksub ?amul ?imul ?lmul ?cmul ?kmul ?aneg ?ineg ?lneg ?cneg ?kneg ?acall ?icall ?lcall ?ccall ?kcall ?aeq ?ieq ?leq ?ceq ?keq ?aM ?iM ?lM ?cM ?kM ?d1 ?d2 ?paG ?pgG ?ptG ?prG ?lG ?cG ?kG ?paD ?pgD ?ptD ?prD ?lD ?cD ?kD ?pg ?hd ?po ?sa ?mk ?kc ?cc ?cg ?ct ?cm ?np ?ic ?tc ?si ?st ?ss ?sf ?ra ?rs ?rm ?ia ?ib ?is1 ?is2 ?im1 ?im2 ?ne ?fi ?z_len ?z_tuple ?z_max ?z_enumerate ?z_reversed ?z_isinstance ?z_int ?z_bool ?z_abs ?z_range ?z_list ?z_min
    (case aT => k_is)
    (case lT => k_is)
    (case cT => k_is)
    (case kT => k_is)
    (case aS => k_is)
    (case lS => k_is)
    (case cS => k_is)
    (case kS => k_is)
    (case aP => k_is)
    (case lP => k_is)
    (case cP => k_is)
    (case kP => k_is)
    (case aN => k_is)
    (case lN => k_is)
    (case cN => k_is)
    (case kN => k_is)
    (case aI => k_is)
    (case lI => k_is)
    (case cI => k_is)
    (case kI => k_is)
    (case aO => k_is)
    (case lO => k_is)
    (case cO => k_is)
    (case kO => k_is)
    (case aA => k_is)
    (case lA => k_is)
    (case cA => k_is)
    (case kA => k_is)
    (case aV => k_is)
    (case lV => k_is)
    (case cV => k_is)
    (case kV => k_is)
    (case aL => k_is)
    (case lL => k_is)
    (case cL => k_is)
    (case kL => k_is)
    (case aR => k_is)
    (case lR => k_is)
    (case cR => k_is)
    (case kR => k_is)
    (case aK => k_is)
    (case lK => k_is)
    (case cK => k_is)
    (case kK => k_is)
    (case aPl => k_is)
    (case lPl => k_is)
    (case cPl => k_is)
    (case kPl => k_is)
    (case aPa => k_is)
    (case lPa => k_is)
    (case cPa => k_is)
    (case kPa => k_is)
    (case aW => k_is)
    (case lW => k_is)
    (case cW => k_is)
    (case kW => k_is)
    (case aC => k_is)
    (case aadd => k_is)
    (case iadd => k_is)
    (case ladd => k_is)
    (case cadd => k_is)
    (case kadd => k_is)
    (case asub => k_is)
    (case isub => k_is)
    (case lsub => k_is)
    (case csub => k_is)
    (case ksub => k_is)
    (case amul => k_is)
    (case imul => k_is)
    (case lmul => k_is)
    (case cmul => k_is)
    (case kmul => k_is)
    (case aneg => k_is)
    (case ineg => k_is)
    (case lneg => k_is)
    (case cneg => k_is)
    (case kneg => k_is)
    (case acall => k_is)
    (case icall => k_is)
    (case lcall => k_is)
    (case ccall => k_is)
    (case kcall => k_is)
    (case aeq => k_is)
    (case ieq => k_is)
    (case leq => k_is)
    (case ceq => k_is)
    (case keq => k_is)
    (case aM => k_is)
    (case iM => k_is)
    (case lM => k_is)
    (case cM => k_is)
    (case kM => k_is)
    (case d1 => k_is)
    (case d2 => k_is)
    (case paG => k_is)
    (case pgG => k_is)
    (case ptG => k_is)
    (case prG => k_is)
    (case lG => k_is)
    (case cG => k_is)
    (case kG => k_is)
    (case paD => k_is)
    (case pgD => k_is)
    (case ptD => k_is)
    (case prD => k_is)
    (case lD => k_is)
    (case cD => k_is)
    (case kD => k_is)
    (case pg => k_is)
    (case hd => k_is)
    (case po => k_is)
    (case sa => k_is)
    (case mk => k_is)
    (case kc => k_is)
    (case cc => k_is)
    (case cg => k_is)
    (case ct => k_is)
    (case cm => k_is)
    (case np => k_is)
    (case ic => k_is)
    (case tc => k_is)
    (case si => k_is)
    (case st => k_is)
    (case ss => k_is)
    (case sf => k_is)
    (case ra => k_is)
    (case rs => k_is)
    (case rm => k_is)
    (case ia => k_is)
    (case ib => k_is)
    (case is1 => k_is)
    (case is2 => k_is)
    (case im1 => k_is)
    (case im2 => k_is)
    (case ne => k_is)
    (case fi => k_is)
    (case z_len => k_is)
    (case z_tuple => k_is)
    (case z_max => k_is)
    (case z_enumerate => k_is)
    (case z_reversed => k_is)
    (case z_isinstance => k_is)
    (case z_int => k_is)
    (case z_bool => k_is)
    (case z_abs => k_is)
    (case z_range => k_is)
    (case z_list => k_is)
    (case z_min => k_is)

