import PyProof.Rows.All
import Wide.All
import OpenK.AllK
import Wide.FinOn
import HandS.ForMost
import HandS.IsInst
import HandS.Property
import HandS.Star
import HandS.Rev
import HandS.TupMul
import HandS.Wide
import HandS.Style
import HandS.Walk
import HandS.Defaults
import HandS.ForExc
import HandS.ExcInit
import HandS.ExcIs
import HandS.ExcField
import HandS.RaiseMore
import HandS.ExcValue
import KE.GoesEnum
import KE.GoesMore
import HandS.TupAny
import KE.KRevSl
import KE.KExcIs
import PySem.Challenge.RW_farmisses_k13_errors_of_the_package
import HandS.Deep
import KE.KExcInit
set_option Elab.async false
set_option linter.all false
/-! Sizes as lists of ints: plain mathematics. -/
namespace SZ
/-- without the zeros at the end -/
def trim : List Int → List Int
  | [] => []
  | x :: r => match trim r with
    | [] => if x = 0 then [] else [x]
    | y :: ys => x :: y :: ys
theorem trim_app0 : ∀ ys : List Int, trim (ys ++ [0]) = trim ys
  | [] => by simp [trim]
  | y :: ys => by
    show trim (y :: (ys ++ [0])) = trim (y :: ys)
    simp only [trim]
    rw [trim_app0 ys]
theorem trim_app : ∀ (ys : List Int) {z : Int}, z ≠ 0 → trim (ys ++ [z]) = ys ++ [z]
  | [], z, h => by simp [trim, h]
  | y :: ys, z, h => by
    show trim (y :: (ys ++ [z])) = y :: (ys ++ [z])
    simp only [trim]
    rw [trim_app ys h]
    cases e : ys ++ [z] with
    | nil => simp at e
    | cons a b => rfl
theorem trim_len : ∀ xs : List Int, (trim xs).length ≤ xs.length
  | [] => Nat.le_refl _
  | x :: r => by
    have ih := trim_len r
    simp only [trim]
    cases e : trim r with
    | nil => dsimp only; split <;> simp
    | cons y ys => rw [e] at ih; simp only [List.length_cons] at ih ⊢; omega
theorem trim_mem : ∀ {xs : List Int} {c : Int}, c ∈ trim xs → c ∈ xs
  | [], _, h => h
  | x :: r, c, h => by
    have ih := @trim_mem r c
    simp only [trim] at h
    cases e : trim r with
    | nil =>
      rw [e] at h
      dsimp only at h
      split at h
      · cases h
      · exact List.mem_cons.mpr (.inl (by simpa using h))
    | cons y ys =>
      rw [e] at h ih
      rcases List.mem_cons.mp h with h | h
      · exact List.mem_cons.mpr (.inl h)
      · exact List.mem_cons.mpr (.inr (ih h))
theorem trim_trim : ∀ xs : List Int, trim (trim xs) = trim xs
  | [] => rfl
  | x :: r => by
    have ih := trim_trim r
    simp only [trim]
    cases e : trim r with
    | nil => dsimp only; split <;> simp [trim, *]
    | cons y ys =>
      rw [e] at ih
      show trim (x :: (y :: ys)) = x :: (y :: ys)
      rw [trim, ih]
/-- the value at n -/
def ev : List Int → Int → Int
  | [], _ => 0
  | c :: r, n => ev r n * n + c
theorem ev_trim : ∀ (xs : List Int) (n : Int), ev (trim xs) n = ev xs n
  | [], _ => rfl
  | x :: r, n => by
    have ih := ev_trim r n
    simp only [trim]
    cases e : trim r with
    | nil =>
      rw [e] at ih
      have h0 : ev r n = 0 := ih.symm
      dsimp only
      split
      · rename_i hx
        simp [ev, h0, hx]
      · simp [ev, h0]
    | cons y ys =>
      rw [e] at ih
      show ev (y :: ys) n * n + x = ev r n * n + x
      rw [ih]
/-- item by item -/
def sumL : List Int → List Int → List Int
  | [], ys => ys
  | x :: xs, [] => x :: xs
  | x :: xs, y :: ys => (x + y) :: sumL xs ys
theorem sumL_nil (xs : List Int) : sumL xs [] = xs := by cases xs <;> rfl
theorem ev_sumL : ∀ (xs ys : List Int) (n : Int), ev (sumL xs ys) n = ev xs n + ev ys n
  | [], ys, n => by simp [sumL, ev]
  | x :: xs, [], n => by simp [sumL, ev]
  | x :: xs, y :: ys, n => by
    simp only [sumL, ev, ev_sumL xs ys n, Int.add_mul]
    omega
theorem len_sumL : ∀ xs ys : List Int, (sumL xs ys).length = max xs.length ys.length
  | [], ys => by simp [sumL]
  | x :: xs, [] => by simp [sumL]
  | x :: xs, y :: ys => by simp only [sumL, List.length_cons, len_sumL xs ys]; omega
theorem get_sumL : ∀ (xs ys : List Int) (i : Nat), (sumL xs ys).getD i 0 = xs.getD i 0 + ys.getD i 0
  | [], ys, i => by simp [sumL]
  | x :: xs, [], i => by simp [sumL]
  | x :: xs, y :: ys, 0 => by simp [sumL]
  | x :: xs, y :: ys, i + 1 => by simpa [sumL] using get_sumL xs ys i
def negL (xs : List Int) : List Int := xs.map fun x => -x
theorem ev_negL : ∀ (xs : List Int) (n : Int), ev (negL xs) n = - ev xs n
  | [], n => by simp [negL, ev]
  | x :: xs, n => by
    have ih := ev_negL xs n
    show ev (negL xs) n * n + -x = -(ev xs n * n + x)
    rw [ih, Int.neg_mul]
    omega
/-- c times ys, added to zs from place k on -/
def addAt (zs : List Int) (k : Nat) (d : Int) : List Int := zs.set k (zs.getD k 0 + d)
theorem len_addAt (zs : List Int) (k : Nat) (d : Int) : (addAt zs k d).length = zs.length := by simp [addAt]
def rowAt (zs : List Int) (k : Nat) (c : Int) (ys : List Int) : List Int := ys.zipIdx.foldl (fun z p => addAt z (k + p.2) (c * p.1)) zs
/-- powers of n -/
theorem ev_addAt : ∀ (zs : List Int) (k : Nat) (d n : Int), k < zs.length → ev (addAt zs k d) n = ev zs n + d * n ^ k
  | [], k, d, n, h => by simp at h
  | z :: zs, 0, d, n, h => by simp [addAt, ev]; omega
  | z :: zs, k + 1, d, n, h => by
    have ih := ev_addAt zs k d n (by simpa using h)
    have e : addAt (z :: zs) (k + 1) d = z :: addAt zs k d := by simp [addAt]
    rw [e]
    show ev (addAt zs k d) n * n + z = ev zs n * n + z + d * n ^ (k + 1)
    rw [ih, Int.add_mul, Int.pow_succ, Int.mul_assoc]
    omega
/-- the product, as the two loops make it: the first i of xs whole, the first j of ys with the next one -/
def mulL : List Int → List Int → List Int
  | [], ys => List.replicate ys.length 0
  | x :: xs, ys => sumL (ys.map (x * ·)) (0 :: mulL xs ys)
theorem ev_map_mul : ∀ (x : Int) (ys : List Int) (n : Int), ev (ys.map (x * ·)) n = x * ev ys n
  | x, [], n => by simp [ev]
  | x, y :: ys, n => by
    show ev (ys.map (x * ·)) n * n + x * y = x * (ev ys n * n + y)
    rw [ev_map_mul x ys n, Int.mul_add, Int.mul_assoc]
theorem ev_rep0 : ∀ (k : Nat) (n : Int), ev (List.replicate k 0) n = 0
  | 0, _ => rfl
  | k + 1, n => by rw [List.replicate_succ]; simp [ev, ev_rep0 k n]
theorem ev_mulL : ∀ (xs ys : List Int) (n : Int), ev (mulL xs ys) n = ev xs n * ev ys n
  | [], ys, n => by simp [mulL, ev_rep0, ev]
  | x :: xs, ys, n => by
    rw [mulL, ev_sumL, ev_map_mul]
    show x * ev ys n + (ev (mulL xs ys) n * n + 0) = (ev xs n * n + x) * ev ys n
    rw [ev_mulL xs ys n, Int.add_mul, Int.add_zero, Int.add_comm, Int.mul_assoc, Int.mul_assoc, Int.mul_comm (ev ys n) n]
theorem len_mulL : ∀ xs ys : List Int, (mulL xs ys).length = xs.length + ys.length
  | [], ys => by simp [mulL]
  | x :: xs, ys => by rw [mulL, len_sumL, List.length_map, List.length_cons, len_mulL xs ys, List.length_cons]; omega
/-- all below 2 ^ k in size -/
def Bd (k : Nat) (xs : List Int) : Prop := ∀ c ∈ xs, c.natAbs < 2 ^ k
theorem Bd.mono {j k : Nat} {xs : List Int} (h : Bd j xs) (hk : j ≤ k) : Bd k xs := fun c hc => Nat.lt_of_lt_of_le (h c hc) (Nat.pow_le_pow_right (by decide) hk)
theorem Bd.trim {k : Nat} {xs : List Int} (h : Bd k xs) : Bd k (trim xs) := fun c hc => h c (trim_mem hc)
theorem Bd.nil {k : Nat} : Bd k [] := fun _ h => nomatch h
theorem Bd.cons {k : Nat} {x : Int} {xs : List Int} (h : x.natAbs < 2 ^ k) (t : Bd k xs) : Bd k (x :: xs) := fun c hc => by
  rcases List.mem_cons.mp hc with e | e
  · rw [e]; exact h
  · exact t c e
theorem natAbs_add_lt {a b : Int} {k : Nat} (ha : a.natAbs < 2 ^ k) (hb : b.natAbs < 2 ^ k) : (a + b).natAbs < 2 ^ (k + 1) := by
  have : (2 : Nat) ^ (k + 1) = 2 ^ k + 2 ^ k := by rw [Nat.pow_succ]; omega
  omega
theorem natAbs_mul_lt {a b : Int} {j k : Nat} (ha : a.natAbs < 2 ^ j) (hb : b.natAbs < 2 ^ k) : (a * b).natAbs < 2 ^ (j + k) := by
  rw [Int.natAbs_mul, Nat.pow_add]
  exact Nat.mul_lt_mul'' ha hb
theorem two_pos (k : Nat) : 0 < 2 ^ k := Nat.pow_pos (by decide)
theorem Bd.sumL : ∀ {k : Nat} {xs ys : List Int}, Bd k xs → Bd k ys → Bd (k + 1) (sumL xs ys)
  | k, [], ys, _, h => h.mono (Nat.le_succ _)
  | k, x :: xs, [], h, _ => h.mono (Nat.le_succ _)
  | k, x :: xs, y :: ys, h, g => by
    refine Bd.cons (natAbs_add_lt (h x (List.mem_cons_self ..)) (g y (List.mem_cons_self ..))) (Bd.sumL (fun c hc => h c (List.mem_cons_of_mem _ hc)) fun c hc => g c (List.mem_cons_of_mem _ hc))
theorem Bd.negL {k : Nat} {xs : List Int} (h : Bd k xs) : Bd k (negL xs) := fun c hc => by
  obtain ⟨x, hx, e⟩ := List.mem_map.mp hc
  rw [← e, Int.natAbs_neg]
  exact h x hx
theorem Bd.mulL : ∀ {j k : Nat} {xs ys : List Int}, Bd j xs → Bd k ys → Bd (j + k + xs.length) (mulL xs ys)
  | j, k, [], ys, _, h => fun c hc => by
    have : c = 0 := (List.mem_replicate.mp hc).2
    rw [this]; exact two_pos _
  | j, k, x :: xs, ys, h, g => by
    have ih := Bd.mulL (fun c hc => h c (List.mem_cons_of_mem _ hc) : Bd j xs) g
    have e : j + k + (x :: xs).length = (j + k + xs.length) + 1 := by rw [List.length_cons]; omega
    rw [e]
    refine Bd.sumL (fun c hc => ?_) (Bd.cons (two_pos _) ih)
    obtain ⟨y, hy, e2⟩ := List.mem_map.mp hc
    rw [← e2]
    exact Nat.lt_of_lt_of_le (natAbs_mul_lt (h x (List.mem_cons_self ..)) (g y hy)) (Nat.pow_le_pow_right (by decide) (Nat.le_add_right _ _))
/-- how great a value is -/
theorem ev_lt : ∀ {b m : Nat} {xs : List Int} {n : Int}, Bd b xs → n.natAbs < 2 ^ m → (ev xs n).natAbs < 2 ^ (b + xs.length * (m + 1))
  | b, m, [], n, _, _ => two_pos _
  | b, m, x :: xs, n, h, hn => by
    have ih := ev_lt (fun c hc => h c (List.mem_cons_of_mem _ hc) : Bd b xs) hn
    have e : b + (x :: xs).length * (m + 1) = (b + xs.length * (m + 1) + m) + 1 := by rw [List.length_cons, Nat.succ_mul]; omega
    rw [e]
    show (ev xs n * n + x).natAbs < _
    refine natAbs_add_lt (natAbs_mul_lt ih hn) (Nat.lt_of_lt_of_le (h x (List.mem_cons_self ..)) (Nat.pow_le_pow_right (by decide) (by omega)))
/-- ys in place of n: as the loop makes it, from the last one on -/
def cmp : List Int → List Int → List Int
  | [], _ => []
  | c :: r, ys => trim (sumL (trim (mulL (cmp r ys) ys)) [c])
theorem ev_cmp : ∀ (xs ys : List Int) (n : Int), ev (cmp xs ys) n = ev xs (ev ys n)
  | [], _, _ => rfl
  | c :: r, ys, n => by
    rw [cmp, ev_trim, ev_sumL, ev_trim, ev_mulL, ev_cmp r ys n]
    simp [ev]
end SZ

namespace SZ
theorem ext_getD {xs ys : List Int} (hl : xs.length = ys.length) (h : ∀ k, xs.getD k 0 = ys.getD k 0) : xs = ys := by
  apply List.ext_getElem hl
  intro k h1 h2
  have := h k
  rw [List.getD_eq_getElem?_getD, List.getD_eq_getElem?_getD, List.getElem?_eq_getElem h1, List.getElem?_eq_getElem h2] at this
  simpa using this
theorem getD_set (zs : List Int) (j k : Nat) (d : Int) : (zs.set j d).getD k 0 = if k = j ∧ j < zs.length then d else zs.getD k 0 := by
  rw [List.getD_eq_getElem?_getD, List.getD_eq_getElem?_getD, List.getElem?_set]
  by_cases e : j = k
  · subst e
    by_cases hl : j < zs.length
    · simp [hl]
    · simp [hl]
  · simp [e, Ne.symm e]
theorem getD_rep (n k : Nat) : (List.replicate n (0 : Int)).getD k 0 = 0 := by
  rw [List.getD_eq_getElem?_getD, List.getElem?_replicate]
  split <;> rfl
theorem getD_of_ge {xs : List Int} {k : Nat} (h : xs.length ≤ k) : xs.getD k 0 = 0 := by
  rw [List.getD_eq_getElem?_getD, List.getElem?_eq_none h]
  rfl
/-- the k-th coefficient of the product -/
def cf : List Int → List Int → Nat → Int
  | [], _, _ => 0
  | x :: xs, ys, k => x * ys.getD k 0 + (match k with | 0 => 0 | k + 1 => cf xs ys k)
theorem get_map_mul (x : Int) (ys : List Int) (k : Nat) : (ys.map (x * ·)).getD k 0 = x * ys.getD k 0 := by
  rw [List.getD_eq_getElem?_getD, List.getD_eq_getElem?_getD, List.getElem?_map]
  cases ys[k]? <;> simp
theorem get_mulL : ∀ (xs ys : List Int) (k : Nat), (mulL xs ys).getD k 0 = cf xs ys k
  | [], ys, k => by rw [mulL, getD_rep]; rfl
  | x :: xs, ys, 0 => by rw [mulL, get_sumL, get_map_mul]; simp [cf]
  | x :: xs, ys, k + 1 => by
    rw [mulL, get_sumL, get_map_mul]
    show x * ys.getD (k + 1) 0 + (mulL xs ys).getD k 0 = _
    rw [get_mulL xs ys k]
    rfl
theorem cf_app : ∀ (xs : List Int) (x : Int) (ys : List Int) (k : Nat), cf (xs ++ [x]) ys k = cf xs ys k + if xs.length ≤ k then x * ys.getD (k - xs.length) 0 else 0
  | [], x, ys, k => by
    show cf [x] ys k = 0 + if 0 ≤ k then x * ys.getD (k - 0) 0 else 0
    cases k <;> simp [cf]
  | z :: xs, x, ys, 0 => by simp [cf]
  | z :: xs, x, ys, k + 1 => by
    show z * ys.getD (k + 1) 0 + cf (xs ++ [x]) ys k = z * ys.getD (k + 1) 0 + cf xs ys k + if xs.length + 1 ≤ k + 1 then x * ys.getD (k + 1 - (xs.length + 1)) 0 else 0
    rw [cf_app xs x ys k]
    have e : k + 1 - (xs.length + 1) = k - xs.length := by omega
    rw [e, Int.add_assoc]
    congr 2
    by_cases h : xs.length ≤ k
    · rw [if_pos h, if_pos (by omega)]
    · rw [if_neg h, if_neg (by omega)]
theorem cf_take {xs ys : List Int} {i : Nat} {x : Int} (h : xs[i]? = some x) (k : Nat) : cf (xs.take (i + 1)) ys k = cf (xs.take i) ys k + if i ≤ k then x * ys.getD (k - i) 0 else 0 := by
  have hi : i < xs.length := (List.getElem?_eq_some_iff.mp h).1
  have e : xs.take (i + 1) = xs.take i ++ [x] := by rw [List.take_add_one, h]; rfl
  rw [e, cf_app, List.length_take, Nat.min_eq_left (Nat.le_of_lt hi)]
/-- the loops' lists, by their coefficients -/
structure Is (zs : List Int) (n : Nat) (F : Nat → Int) : Prop where
  len : zs.length = n
  get : ∀ k, zs.getD k 0 = F k
theorem Is.set {zs : List Int} {n : Nat} {F : Nat → Int} (h : Is zs n F) {j : Nat} (hj : j < n) {d : Int} {G : Nat → Int} (hg : ∀ k, G k = if k = j then d else F k) : Is (zs.set j d) n G :=
  ⟨by rw [List.length_set, h.len], fun k => by
    rw [getD_set, hg, h.get, h.len]
    by_cases e : k = j
    · rw [if_pos ⟨e, hj⟩, if_pos e]
    · rw [if_neg (fun q => e q.1), if_neg e]⟩
theorem Is.eq {zs ys : List Int} {n : Nat} {F : Nat → Int} (h : Is zs n F) (hl : ys.length = n) (hy : ∀ k, ys.getD k 0 = F k) : zs = ys := ext_getD (h.len.trans hl.symm) fun k => (h.get k).trans (hy k).symm
theorem getD_some {xs : List Int} {i : Nat} {x : Int} (h : xs[i]? = some x) : xs.getD i 0 = x := by rw [List.getD_eq_getElem?_getD, h]; rfl
end SZ

set_option maxRecDepth 100000
set_option maxHeartbeats 4000000
/-! Rules of my own over the hand layer. -/
namespace VR
open PySem PySem.Spec PyProof.Rows L2

/-! ### an own binary operator whose right side is of the same class, or of a built-in type -/
section
open PySem.W
variable {prog : Program} {w : World} {A : Around} {E : Value → Shared → Prop} {s : Shared} {K : Frag} {x C L f y : Addr} {h₀ : Heap} {m : Str → Option Value} {ox : Obj} {od : Option Obj} {nm : String}
theorem binSame {op : Operator} {Q : Value → Shared → Prop} (X : K.In s.heap) (I : InstAt s.heap x ox C od) (hb : Looks (model prog w) s.heap (typeOf (.ref y)) (.ref C)) (hc : selfFirst K C = true)
    (hs : findIn K (.ref C) (PySem.dunder op.info.2) = some (some (.ref f))) (hf : isFn K (.ref f) = true)
    (h : wpAny (model prog w) A (call (.ref f) [.ref x, .ref y]) (PySem.W.CmpBack Q) E s) : wpAny (model prog w) A (binaryOp op (.ref x) (.ref y)) Q E s := by
  obtain ⟨cd, rest, hcd, hm⟩ := ksp_first hc
  rcases hi : op.info with ⟨sym, nm'⟩
  rw [hi] at hs
  dsimp only at hs
  have one := ksp_try X I hs hf h
  obtain ⟨hh, g, d, tt, os⟩ := s
  have L1 : Looks (model prog w) hh (typeOf (.ref x)) (.ref C) := I.type
  have L2 : Looks (model prog w) hh (typeOf (.ref y)) (.ref C) := hb
  have L3 : Looks (model prog w) hh (fillsNumberSlot (.ref C) nm') true := fills_K X hcd hm hs
  have he : (Value.ref C == Value.ref C) = true := by simp
  simp only [binaryOp, hi]
  refine wpAny_holding (wpAny_bind ?_)
  unfold binaryOp1
  refine wpAny_bind (L1.at (wpAny_bind (L2.at (wpAny_bind (L3.at ?_)))))
  simp only [he, if_true]
  ksp_lk
  refine wpAny_mono one (fun r s' hr' => ?_) fun _ _ e => e
  obtain ⟨v, rfl, hq⟩ := hr'
  ksp_lk
  exact hq
end

/-- what the class at C must say that its own operator f is asked -/
structure BinOwn (K : PySem.W.Frag) (C : Addr) (nm : String) (f : Addr) : Prop where
  sf : PySem.W.selfFirst K C = true
  hs : PySem.W.findIn K (.ref C) (PySem.dunder nm) = some (some (.ref f))
  hf : PySem.W.isFn K (.ref f) = true
  hr : PySem.W.findIn K (.ref C) (dunderR nm) = some none
  ti : ∃ fo ro, PySem.W.findIn K (.type "int") (PySem.dunder nm) = some fo ∧ PySem.W.findIn K (.type "int") (dunderR nm) = some ro
  su : PySem.W.subIn K (.type "int") (.ref C) = some false

theorem relV_back {v : V} {u : Value} (r : RelV v u) {Q : Value → Shared → Prop} {s : Shared} (q : Q u s) : PySem.W.CmpBack Q u s := by
  cases v with
  | non => cases (show u = Value.none from r); exact q
  | bl b => cases (show u = Value.bool b from r); exact q
  | int i => obtain ⟨t, e⟩ := (show ∃ t, u = Value.int i t from r); cases e; exact q
  | str i => obtain ⟨t, e⟩ := (show ∃ t, u = Value.str i t from r); cases e; exact q
  | byt i => obtain ⟨t, e⟩ := (show ∃ t, u = Value.bytes i t from r); cases e; exact q
  | flt i => obtain ⟨t, e⟩ := (show ∃ t, u = Value.float i t from r); cases e; exact q
  | ref a => cases (show u = Value.ref a from r); exact q
  | ty n => cases (show u = Value.type n from r); exact q

/-- one + other -/
def rOwn (C : Addr) (sp : Sp) (E : XK) : R2 := fun x y H Q => ∃ a dx fs, x = .ref a ∧ H a = some (.ins C dx fs) ∧ ((∃ b dy gs, y = .ref b ∧ H b = some (.ins C dy gs)) ∨ ∃ i, y = .int i) ∧ sp [x, y] H Q E
section
variable {X : Cx} {CX : CXT} {k : Nat} {C f : Addr} {fd : FuncData} {ps : List Str} {sp : Sp} {E : XK} {op : Operator}
theorem op_own (B : BinOwn X.K C op.info.2 f) (F : FnOk X.prog X.w X.K X.mg X.base CX k f fd ps sp) (hr : Room k X.A) (hb : Binds X.K fd ps []) (hx : Passes CX X E) : OpR X (binaryOp op) (rOwn C sp E) := by
  intro pins s σ H x y v u Q I rx ry h
  obtain ⟨a, dx, fs, rfl, ha, hy, q⟩ := h
  cases rx
  obtain ⟨mA, O, _⟩ := ins_get I.hok ha
  obtain ⟨od, J, _⟩ := O.look
  have call : ∀ {u : Value}, RelV y u → wpAny (model X.prog X.w) X.A (call (.ref f) [.ref a, u]) (PySem.W.CmpBack (EP X pins σ Q)) X.xe s := fun {u} ry =>
    wpAny_mono (run_fn (us := [.ref a, u]) (vs := [.ref a, y]) (dvs := []) F hr hb .nil hx I (.cons rfl (.cons ry .nil)) q) (fun r s' hq => by
      obtain ⟨z, H', I', rz, hz⟩ := hq
      exact relV_back rz ⟨z, H', I', rz, hz⟩) fun _ _ z => z
  rcases hy with ⟨b, dy, gs, rfl, hb'⟩ | ⟨i, rfl⟩
  · cases ry
    obtain ⟨mB, O', _⟩ := ins_get I.hok hb'
    obtain ⟨od', J', _⟩ := O'.look
    exact binSame I.kIn J J'.type B.sf B.hs B.hf (call rfl)
  · obtain ⟨t, rfl⟩ := (show ∃ t, u = Value.int i t from ry)
    obtain ⟨m, hF⟩ := I.fr
    obtain ⟨fo, ro, h1, h2⟩ := B.ti
    exact PySem.W.ksp_binT hF I.ok.mod.kin J rfl B.sf B.hs B.hf B.hr (.inl rfl) h1 h2 B.su (call ⟨t, rfl⟩)
/-- -one -/
def rOwnU (C : Addr) (sp : Sp) (E : XK) : V → Hp → VK → Prop := fun x H Q => ∃ a dx fs, x = .ref a ∧ H a = some (.ins C dx fs) ∧ sp [x] H Q E
theorem un_own (hs : PySem.W.findIn X.K (.ref C) "__neg__" = some (some (.ref f))) (hf : PySem.W.isFn X.K (.ref f) = true) (F : FnOk X.prog X.w X.K X.mg X.base CX k f fd ps sp) (hr : Room k X.A) (hb : Binds X.K fd ps []) (hx : Passes CX X E) :
    UnR X (unaryOp .USub) (rOwnU C sp E) := by
  intro pins s σ H x v Q I rx h
  obtain ⟨a, dx, fs, rfl, ha, q⟩ := h
  cases rx
  obtain ⟨mA, O, _⟩ := ins_get I.hok ha
  obtain ⟨od, J, _⟩ := O.look
  obtain ⟨m, hF⟩ := I.fr
  exact PySem.W.ksp_neg hF I.ok.mod.kin J hs hf (run_fn (us := [.ref a]) (vs := [.ref a]) (dvs := []) F hr hb .nil hx I (.cons rfl .nil) q)
end

/-! ### enumerate(tuple) -/
def IteT (K : PySem.W.Frag) (a : Addr) : It :=
  ⟨fun i H => ∃ (xs : List V) (x : V), SqT K H a xs ∧ xs[i]? = some x, fun i H v H' => ∃ T x, v = .ref T ∧ H T = none ∧ H' = upd H T (.tup [.int (i : Nat), x]) ∧ ∀ xs, SqT K H a xs → xs[i]? = some x, fun i H => ∃ xs : List V, SqT K H a xs ∧ xs.length = i⟩
theorem isTup_isTuple {h : Heap} {a : Addr} {its : Array Value} (x : IsTup h a its) : h.IsTuple a its := x
theorem turn_enumT {P : Program} {w : World} {K : PySem.W.Frag} {elts : List Expr} {kk : Nat} {tpos : Pos} (a e it : Addr) (hai : a ≠ it) (hae : a ≠ e) :
    Turn P w K (.Tuple elts kk tpos) (IteT K a) [e, it] e (fun i h => (∃ old, IsEnum h e it ((i : Nat) : Int) old) ∧ h.IsTupleIter it a i ∧ e ≠ it) where
  mem := by simp
  obj := fun i h st b hb => by
    obtain ⟨⟨old, he⟩, ⟨o, ho, hc, hd⟩, _⟩ := st
    have e' : b = e ∨ b = it := by simpa using hb
    rcases e' with z | z
    · rw [z]; exact ⟨_, he, fun v q => nomatch q⟩
    · rw [z]; exact ⟨o, ho, fun v q => by rw [hd] at q; cases q⟩
  keep := fun i h h' st k => let ⟨⟨old, he⟩, hi, hne⟩ := st; ⟨⟨old, k e (by simp) _ he⟩, hi.at fun o q => k it (by simp) o q, hne⟩
  item := by
    intro X hP hw hK hc i pins s σ H E I hf st hg
    subst hP hw hK
    obtain ⟨⟨old, he⟩, hit, hne⟩ := st
    obtain ⟨xs, x, hq, hx⟩ := hg
    obtain ⟨its, rv, p, hz⟩ := I.tuple hq
    obtain ⟨u, hu, ru⟩ := rv.get hx
    have hel : e < s.heap.objs.size := Heap.lt_size he
    have hil : it < s.heap.objs.size := by obtain ⟨_, q, _⟩ := hit; exact Heap.lt_size q
    have hlt : i < its.toArray.size := by
      have := (List.getElem?_eq_some_iff.mp hu).1
      simpa using this
    have D := Draws.tuple (prog := X.prog) (w := X.w) (A := X.A.in1) (show X.A.in1.handled = none from I.ok.hd hc) it a hai its.toArray
    refine wpAny_pyNext_enum_itemC (i := i) D he ⟨hit, isTup_isTuple p⟩ hlt hne (by simp [hne, Ne.symm hae]) fun y h' tk hy ho hst' hT hsz hk => ?_
    obtain ⟨hit', hit2⟩ := hst'
    have ey : y = u := by
      have q : its.toArray[i]? = some u := by simpa using hu
      have q2 : its.toArray[i]? = some y := hy
      rw [q] at q2
      exact (Option.some.inj q2).symm
    subst ey
    refine ⟨_, rfl, wpAny_letOwnedTupleGo_enum (s := { s with heap := h', toks := tk + 1 }) ho fun h'' he' sb => ?_⟩
    have hT2 : h''.get? s.heap.objs.size = some { cls := .type "tuple", data := .seq #[.int i tk, y] } := (sb.2 _ (Nat.ne_of_gt hel)).trans hT
    have new : ObjOk X.prog X.w (upd H s.heap.objs.size (.tup [.int (i : Nat), x])) h'' s.heap.objs.size (.tup [.int (i : Nat), x]) :=
      ⟨by show 2 ≤ sizeLine; decide, [.int i tk, y], .cons ⟨_, rfl⟩ (.cons ru .nil), ⟨_, hT2, rfl, _, rfl⟩⟩
    have I1 : Inv X pins σ (upd H s.heap.objs.size (.tup [.int (i : Nat), x])) { s with heap := h'', toks := tk + 1 } :=
      I.turnedNew (ch := [e, it]) (fun b ob hb q => (sb.2 b (fun z => hb (by simp [z]))).trans (hk b ob (fun z => hb (by simp [z])) (fun z => hb (by simp [z])) q)) hf (Nat.le_refl _) new
    refine ⟨.ref s.heap.objs.size, _, I1, rfl, ⟨_, x, rfl, I.hok.fresh (Nat.le_refl _), rfl, fun ys hy => by rw [I.tuple_inj hy hq]; exact hx⟩, ⟨⟨y, ?_⟩, hit'.at fun o q => (sb.2 it (Ne.symm hne)).trans q, hne⟩, fun b hb => ?_⟩
    · have e1 : ((i + 1 : Nat) : Int) = (i : Int) + 1 := by omega
      rw [e1]; exact he'
    · have hb' : b < s.heap.objs.size := by
        have e' : b = e ∨ b = it := by simpa using hb
        rcases e' with z | z
        · rw [z]; exact hel
        · rw [z]; exact hil
      rw [upd_ne (Nat.ne_of_lt hb')]
      exact (hf b hb).1
  done := by
    intro X hP hw hK hc i pins s σ H E I hf st hg
    subst hP hw hK
    obtain ⟨⟨old, he⟩, hit, hne⟩ := st
    obtain ⟨xs, hq, hx⟩ := hg
    obtain ⟨its, rv, p, hz⟩ := I.tuple hq
    obtain ⟨f0, f1, f2, f3, f4, f5⟩ := hf it (by simp)
    have hl := rv.length
    have D := Draws.tuple (prog := X.prog) (w := X.w) (A := X.A.in1) (show X.A.in1.handled = none from I.ok.hd hc) it a hai its.toArray
    have hz : its.toArray.size = i := by rw [List.size_toArray]; omega
    subst hz
    exact wpAny_pyNext_enum_endD D he ⟨hit, isTup_isTuple p⟩ fun h' eb => ⟨rfl, I.turned (t' := s.toks) (fun b o hb q => eb b o hb q) f0 f1 f3 f4 f5⟩
  self := fun A i s Q E st h => let ⟨⟨_, he⟩, _⟩ := st; wpAny_pyIter_enum he h
theorem meets_enumB1 {v : Value} {o : Obj} {H : Heap → Prop} (B : Begins v o H) :
    Meets (Builtin.«enumerate.__new__» ⟨[.type "enumerate", v], []⟩) (fun _ R s => H s.heap ∧
      R (.ok (.ret (.ref (s.heap.push o).objs.size))) { s with heap := (s.heap.push o).push { cls := .type "enumerate", data := .fields #[.none, .bool false, .ref s.heap.objs.size, rawInt 0, .none, .none] } }) :=
  .of_wp fun prog w A R s h => by
    obtain ⟨hp, g, d, tk, os⟩ := s; obtain ⟨h1, h⟩ := h
    have hsub := sub_enumerate
    have q1 : ∀ {A' : Around} {E : Value → Shared → Prop} {Q : Value → Shared → Prop}, Q (.ref hp.objs.size) ⟨hp.push o, g, d, tk, os⟩ → wpAny (model prog w) A' (pyIter v) Q E ⟨hp, g, d, tk, os⟩ :=
      fun q => B.iter prog w _ _ ⟨hp, g, d, tk, os⟩ _ h1 q
    wp_walk using q1
    refine wpAny_stack_any fun st => wpAny_pure ?_
    split
    · rename_i c _ _ _ _ _
      cases (c == Value.type "enumerate")
      · wp_walk using q1
        exact ⟨_, rfl, h⟩
      · wp_walk using q1
        exact ⟨_, rfl, h⟩
    · wp_walk using q1
      exact ⟨_, rfl, h⟩
theorem call_enumT {prog : Program} {w : World} {A : Around} {E : Value → Shared → Prop} {s : Shared} {l : Addr} {items : Array Value} {Q : Value → Shared → Prop} (hL : s.heap.IsTuple l items)
    (h : ∀ h', IsEnum h' (s.heap.objs.size + 1) s.heap.objs.size 0 .none → h'.IsTupleIter s.heap.objs.size l 0 → h'.objs.size = s.heap.objs.size + 2 →
      (∀ b o, s.heap.get? b = some o → h'.get? b = some o) → Q (.ref (s.heap.objs.size + 1)) { s with heap := h' }) :
    wpAny (model prog w) A (call (.type "enumerate") [.ref l]) Q E s := by
  refine callType_new F.called_enumerate (by decide) (F.typeCall_enumerate_1 _) (F.newCall_enumerate_1 _) (fun obj => F.args_object_init_2 obj _) F.entry_enumerate_new
    (meets_enumB1 (begins_tuple l items)) ⟨hL, ?_⟩
  have hz : (s.heap.push { cls := .type "tuple_iterator", data := .fields #[.ref l, .int 0 0] }).objs.size = s.heap.objs.size + 1 := Heap.size_push ..
  show _ ∧ _
  rw [hz]
  have he : IsEnum ((s.heap.push { cls := .type "tuple_iterator", data := .fields #[.ref l, .int 0 0] }).push
      { cls := .type "enumerate", data := .fields #[.none, .bool false, .ref s.heap.objs.size, rawInt 0, .none, .none] }) (s.heap.objs.size + 1) s.heap.objs.size 0 .none := by
    have := Heap.get?_push_size (s.heap.push { cls := .type "tuple_iterator", data := .fields #[.ref l, .int 0 0] })
      (o := { cls := .type "enumerate", data := .fields #[.none, .bool false, .ref s.heap.objs.size, rawInt 0, .none, .none] }) rfl
    rw [hz] at this; exact this
  refine ⟨⟨_, he, rfl⟩, h _ he ⟨_, Heap.get?_push_of_some _ (Heap.get?_push_size _ rfl), rfl, rfl⟩ (by rw [Heap.size_push, hz]) fun b o x => Heap.get?_push_of_some _ (Heap.get?_push_of_some _ x)⟩
def iEnumT (K : PySem.W.Frag) (ta : TA) : TI := fun σ H R => ta σ H fun vs H1 => ∃ a xs, vs = [.ref a] ∧ SqT K H1 a xs ∧ R (IteT K a) H1
theorem pi_enumT {X : Cx} {e : Expr} {ta : TA} {p pos tpos : Pos} {elts : List Expr} {kk : Nat} (hg : Gl X "enumerate") (hm : X.mg "enumerate" = none) (ha : PA X [e] ta) (hs : starEach [e] X.env = [(false, eval e X.env)] := by rfl) :
    PI X (.Tuple elts kk tpos) (.Call (.Name "enumerate" p) [e] [] pos) (iEnumT X.K ta) := by
  refine ⟨fun pins s σ H R I h => ?_⟩
  refine Call_ (ld_blt I hg hm boot_enumerate (PyProof.Rows.callWith_type1 (thn (ha.run pos pins s σ H _ I h) fun us s1 ⟨vs, H1, I1, r1, q1⟩ => ?_) hs rfl))
  obtain ⟨a, xs, ex, hq, q⟩ := q1
  subst ex
  cases r1 with
  | cons r rr =>
    cases rr
    cases r
    obtain ⟨its, rv, p', hz⟩ := I1.tuple hq
    have hal : a < s1.heap.objs.size := by obtain ⟨o, ho, _⟩ := id p'; exact Heap.lt_size ho
    refine call_enumT (isTup_isTuple p') fun h' he hit hsz hk => wpAny_pyIter_enum he ?_
    have I2 : Inv X pins σ H1 { s1 with heap := h' } := I1.kept (t' := s1.toks) hk
    refine ⟨s1.heap.objs.size + 1, [s1.heap.objs.size + 1, s1.heap.objs.size], _, _, H1, rfl, I2, turn_enumT a (s1.heap.objs.size + 1) s1.heap.objs.size (Nat.ne_of_lt hal) (Nat.ne_of_lt (Nat.lt_succ_of_lt hal)), ⟨⟨.none, he⟩, hit, Nat.succ_ne_self _⟩, fun b hb => ?_, q⟩
    have e' : b = s1.heap.objs.size + 1 ∨ b = s1.heap.objs.size := by simpa using hb
    have hle : s1.heap.objs.size ≤ b := by
      rcases e' with z | z
      · rw [z]; exact Nat.le_add_right _ _
      · rw [z]; exact Nat.le_refl _
    exact I1.fpOk hle (I1.hok.fresh hle)
theorem walk_enumT {K : PySem.W.Frag} {a : Addr} {xs : List V} : Walk (IteT K a) xs.length (fun H => SqT K H a xs) (YPair (fun i => some (.int (i : Nat))) (fun i => xs[i]?)) := by
  refine ⟨fun i _ hi q => ⟨xs, xs[i], q, by simp [hi]⟩, fun _ q => ⟨xs, q, rfl⟩, fun i H v H' _ q y => ?_⟩
  obtain ⟨T, x, h1, h2, h3, h4⟩ := y
  exact ⟨T, .int (i : Nat), x, h1, h2, h3, rfl, h4 xs q⟩
end VR

namespace VR
open PySem PySem.Spec PyProof.Rows L2
section
open PySem.W
variable {prog : Program} {w : World} {A : Around} {E : Value → Shared → Prop} {s : Shared} {K : Frag} {x C L f y : Addr} {h₀ : Heap} {m : Str → Option Value} {ox : Obj} {od : Option Obj} {nm : String} {b tb : Value}
/-- x != b, the class at C with an own __eq__ and no __ne__ -/
theorem ne_K {Q : Value → Shared → Prop} (hu : A.units + 1 < cLine) (X : K.In s.heap) (I : InstAt s.heap x ox C od) (hb : Looks (model prog w) s.heap (typeOf b) tb) (hn : notFirst K C tb = true)
    (hs : findIn K (.ref C) "__ne__" = some (some (.builtin "object.__ne__"))) (he : findIn K (.ref C) "__eq__" = some (some (.ref f))) (hf : isFn K (.ref f) = true) (hm : mroIn K C (.type "object") = some true)
    (h : wpAny (model prog w) A.in1 (call (.ref f) [.ref x, b]) (fun v s' => ∃ c, v = .bool c ∧ Q (.bool (!c)) s') E s) : wpAny (model prog w) A (richCompare .NotEq (.ref x) b) Q E s := by
  have sub : Looks (model prog w) s.heap (isInstance (.ref x) (.type "object")) true := I.type.andThen (looks_mroIn X hm)
  have one : wpAny (model prog w) A (tryCompare (.ref x) "__ne__" b) (fun r s' => ∃ v, r = some v ∧ Q v s') E s := by
    unfold tryCompare
    have inner : wpAny (model prog w) A (call (.builtin "object.__ne__") [.ref x, b]) (fun v s' => ∃ c, v = .bool (!c) ∧ Q (.bool (!c)) s') E s := by
      refine wpAny_call (codeAny_call_builtin PySem.F.slot_tuple_iterator_ne.plain PySem.F.cmpEntry_ne (check_slot PySem.F.cmpKind_ne PySem.F.cmpSplit_ne sub (PySem.F.cmpArgs_ne _ _) ?_))
      unfold Builtin.«object.__ne__»
      refine wpAny_bind (wpAny_of_eq (a := ((Value.ref x : Value), [b])) (by first | rfl | (simp only [slotArgs]; rfl)) ?_)
      dsimp only
      refine wpAny_bind (wpAny_cRoomFor hu ?_)
      refine wpAny_bind (ifBound_K X I he hf (wpAny_mono h (fun v s' hv => ?_) fun _ _ e => e))
      obtain ⟨c, rfl, hq⟩ := hv
      dsimp only
      refine wpAny_bind (wpAny_truthy_bool ?_)
      exact wpAny_pure ⟨c, rfl, hq⟩
    have two : wpAny (model prog w) A (callSpecialIfBound? (.ref x) "__ne__" [b]) (fun r s' => ∃ c, r = some (.bool (!c)) ∧ Q (.bool (!c)) s') E s := by
      simp only [callSpecialIfBound?, bindSpecialIfBound?]
      refine wpAny_holding (wpAny_bind (wpAny_bind (wpAny_bind (I.type.here ((looks_findIn X hs).here ?_)))))
      simp only [PySem.F.slot_tuple_iterator_ne.bind]
      refine wpAny_bind (wpAny_askSetting (wpAny_ite ?_))
      have fin : wpAny (model prog w) A (call (.builtin "object.__ne__") ([.ref x] ++ [b]) >>= fun v => pure (some v)) (fun r s' => ∃ c, r = some (.bool (!c)) ∧ Q (.bool (!c)) s') E s :=
        wpAny_bind (wpAny_mono inner (fun v s' ⟨c, e, q⟩ => wpAny_pure ⟨c, by rw [e], q⟩) fun _ _ h' => h')
      split
      · exact wpAny_bind (wpAny_pure (wpAny_pure fin))
      · exact wpAny_tryCatch (wpAny_bind (wpAny_pure (wpAny_pure fin)))
    refine wpAny_bind (wpAny_mono two (fun v s' hv => ?_) fun _ _ e => e)
    obtain ⟨c, rfl, hq⟩ := hv
    exact wpAny_pure ⟨_, rfl, hq⟩
  unfold richCompare
  simp only [oneThing_ref]
  refine wpAny_holding (wpAny_bind (wpAny_cRoomFor (Nat.lt_of_succ_lt hu) ?_))
  refine wpAny_bind (I.type.here (wpAny_bind (hb.here ?_)))
  split
  · rename_i q
    have e : subIn K tb (.ref C) = some false := by
      rcases Bool.or_eq_true_iff.mp hn with e | e
      · rw [beq_iff_eq.mp e] at q; simp at q
      · exact beq_iff_eq.mp e
    refine wpAny_bind ((looks_subIn X e).here ?_)
    simp only [Bool.false_eq_true, if_false]
    refine wpAny_bind (wpAny_mono one (fun r s' z => ?_) fun _ _ e => e)
    obtain ⟨v, rfl, hq⟩ := z
    exact wpAny_pure hq
  · refine wpAny_bind (wpAny_pure ?_)
    simp only [Bool.false_eq_true, if_false]
    refine wpAny_bind (wpAny_mono one (fun r s' z => ?_) fun _ _ e => e)
    obtain ⟨v, rfl, hq⟩ := z
    exact wpAny_pure hq
end

/-- what the class at C must say for type(x) and isinstance -/
structure InsKit (K : PySem.W.Frag) (C : Addr) : Prop where
  cl : Cls K C
  ha : PySem.W.findIn K (.ref C) "__class__" = some (some (.builtin "object.__class__"))
  hn : PySem.W.specialIn K (.builtin "object.__class__") "__get__" = some (some (.builtin "getset_descriptor.__get__"))
  ht : PySem.W.takesIn K (.builtin "object.__class__") = some true
  hm : PySem.W.mroIn K C (.type "object") = some true
theorem InsKit.ty {K : PySem.W.Frag} {C a dx : Addr} {H : Hp} {fs : List (Str × V)} (k : InsKit K C) (e : H a = some (.ins C dx fs)) : TyX K H (.ref a) (.ref C) := .base (.ins e k.cl k.ha k.hn k.ht k.hm)
theorem TyX.tupT {K : PySem.W.Frag} {H : Hp} {a : Addr} {xs : List V} (h : SqT K H a xs) : TyX K H (.ref a) (.type "tuple") := by
  rcases h with (h | ⟨o, h⟩) | h
  · exact .base (.tup h)
  · exact .fTuple h
  · obtain ⟨o, its, n, h1, h2, _⟩ := h
    exact .kTuple h1 h2
/-- one == other, one != other by an own __eq__ that tells a bool -/
def rOwnE (K : PySem.W.Frag) (C : Addr) (sp : Sp) (E : XK) (neg : Bool) : R2 := fun x y H Q => ∃ a dx fs t, x = .ref a ∧ H a = some (.ins C dx fs) ∧ TyX K H y t ∧ PySem.W.notFirst K C t = true ∧ sp [x, y] H (fun v H' => ∃ c, v = .bl c ∧ Q (.bl (if neg then !c else c)) H') E
section
variable {X : Cx} {CX : CXT} {k : Nat} {C f : Addr} {fd : FuncData} {ps : List Str} {sp : Sp} {E : XK}
theorem op_ownEq (he : PySem.W.findIn X.K (.ref C) "__eq__" = some (some (.ref f))) (hf : PySem.W.isFn X.K (.ref f) = true) (F : FnOk X.prog X.w X.K X.mg X.base CX k f fd ps sp) (hr : Room k X.A) (hb : Binds X.K fd ps []) (hx : Passes CX X E) :
    OpR X (compareOp .Eq) (rOwnE X.K C sp E false) := by
  intro pins s σ H x y v u Q I rx ry h
  obtain ⟨a, dx, fs, t, rfl, ha, ty, hn, q⟩ := h
  cases rx
  obtain ⟨mA, O, _⟩ := ins_get I.hok ha
  obtain ⟨od, J, _⟩ := O.look
  obtain ⟨m, hF⟩ := I.fr
  obtain ⟨P, Z, hp, _⟩ := kit_of I ry ty
  show wpAny (model X.prog X.w) X.A (richCompare .Eq (.ref a) u) (EP X pins σ Q) X.xe s
  refine PySem.W.cmp_K (op := .Eq) hr.units0 hF I.ok.mod.kin J (Z.ty _ _ I.kIn hp) hn he hf ?_
  refine wpAny_mono (run_fn (us := [.ref a, u]) (vs := [.ref a, y]) (dvs := []) F hr hb .nil hx I (.cons rfl (.cons ry .nil)) q) (fun r s' hq => ?_) fun _ _ z => z
  obtain ⟨z, H', I', rz, c, ez, hz⟩ := hq
  subst ez
  cases rz
  exact ⟨.bl c, H', I', rfl, hz⟩
theorem op_ownNe (h0 : PySem.W.findIn X.K (.ref C) "__ne__" = some (some (.builtin "object.__ne__"))) (hmo : PySem.W.mroIn X.K C (.type "object") = some true)
    (he : PySem.W.findIn X.K (.ref C) "__eq__" = some (some (.ref f))) (hf : PySem.W.isFn X.K (.ref f) = true) (F : FnOk X.prog X.w X.K X.mg X.base CX k f fd ps sp) (hr : Room (k + 1) X.A) (hb : Binds X.K fd ps []) (hx : Passes CX X E) :
    OpR X (compareOp .NotEq) (rOwnE X.K C sp E true) := by
  intro pins s σ H x y v u Q I rx ry h
  obtain ⟨a, dx, fs, t, rfl, ha, ty, hn, q⟩ := h
  cases rx
  obtain ⟨mA, O, _⟩ := ins_get I.hok ha
  obtain ⟨od, J, _⟩ := O.look
  obtain ⟨P, Z, hp, _⟩ := kit_of I ry ty
  show wpAny (model X.prog X.w) X.A (richCompare .NotEq (.ref a) u) (EP X pins σ Q) X.xe s
  refine ne_K (Nat.lt_of_le_of_lt (Nat.add_le_add_left (by decide : 1 ≤ 64) _) hr.units) I.kIn J (Z.ty _ _ I.kIn hp) hn h0 he hf hmo ?_
  have r2 : Vals [V.ref a, y] [Value.ref a, u] := .cons rfl (.cons ry .nil)
  have hl : ([Value.ref a, u] : List Value).length = ps.length := by rw [← r2.length]; exact F.len _ _ _ _ q
  refine wpAny_call (codeAny_mono (F.run X.A.in1 X.stack s H ⟨[.ref a, u], []⟩ [.ref a, u] [.ref a, y] _ E hr.in1 I.env0.in1 (by simpa using hb s [.ref a, u] I.kIn (by simpa using hl)) r2 q) fun r s' hq => ?_)
  cases r with
  | error e => exact hx pins σ H s e s' I hq
  | ok fl =>
    cases fl with
    | ret w =>
      obtain ⟨z, H', I', rz, c, ez, hz⟩ := I.after hq
      subst ez
      cases rz
      exact ⟨c, rfl, .bl (!c), H', I', rfl, hz⟩
    | next => exact False.elim hq
    | brk => exact False.elim hq
    | cont => exact False.elim hq
end
end VR

namespace VR
open PySem PySem.Spec PyProof.Rows L2
theorem filterMap_cong {α β : Type} {f g : α → Option β} : ∀ {l : List α}, (∀ a, a ∈ l → f a = g a) → l.filterMap f = l.filterMap g
  | [], _ => rfl
  | a :: l, h => by
    rw [List.filterMap_cons, List.filterMap_cons, h a (List.mem_cons_self ..), filterMap_cong (l := l) fun b hb => h b (List.mem_cons_of_mem _ hb)]
section
open HT
variable {prog : Program} {w : World} {A : Around} {E : Value → Shared → Prop} {s : Shared}
theorem sliceApplied_rev {sl : Addr} {vs : Value} {n : Nat} {Q : Int × Int × Nat → Shared → Prop} (hs : s.heap.IsSliceOf sl .none .none vs) (ps : IsPart vs (some (-1)))
    (h : Q ((n : Int) - 1, -1, n) s) : wpAny (model prog w) A (Builtin.Slice.sliceApplied (.ref sl) (pure (n : Int))) Q E s := by
  obtain ⟨os, hos, hcs, hds⟩ := id hs
  unfold Builtin.Slice.sliceApplied Builtin.Slice.sliceFields
  refine wpAny_bind (wpAny_bind (wpAny_field hos hds (x := .none) rfl (wpAny_bind (wpAny_field hos hds (x := .none) rfl (wpAny_bind (wpAny_field hos hds (x := vs) rfl (wpAny_pure ?_)))))))
  refine wpAny_bind (slicePart_ ps ?_)
  show wpAny _ _ (if ((-1 : Int) == 0) = true then _ else _) _ _ s
  rw [if_neg (by decide)]
  refine wpAny_bind (slicePart_ .none (wpAny_bind (slicePart_ .none (wpAny_bind (wpAny_pure ?_)))))
  show wpAny _ _ (match Builtin.Slice.sliceAdjust none none (-1) (n : Int) with | (lo, hi) => pure (lo, (-1 : Int), Builtin.Slice.slicePlaces lo hi (-1))) _ _ s
  have e1 : Builtin.Slice.sliceAdjust none none (-1) (n : Int) = ((n : Int) - 1, -1) := by
    unfold Builtin.Slice.sliceAdjust
    have h1 : ((-1 : Int) < 0) := by decide
    simp only [h1, if_true]
  have e2 : Builtin.Slice.slicePlaces ((n : Int) - 1) (-1) (-1) = n := by
    unfold Builtin.Slice.slicePlaces
    have h1 : ¬ ((-1 : Int) > 0) := by decide
    have h2 : (-(-1 : Int)) = 1 := by decide
    simp only [h1, if_false, h2, Int.ediv_one]
    split <;> omega
  rw [e1]
  show wpAny _ _ (pure ((n : Int) - 1, (-1 : Int), Builtin.Slice.slicePlaces ((n : Int) - 1) (-1) (-1))) _ _ s
  rw [e2]
  exact wpAny_pure h
theorem pick_rev (xs : Array Value) : ((List.range xs.size).filterMap fun (m : Nat) => xs[(((xs.size : Int) - 1) + (m : Int) * (-1)).toNat]?).toArray = xs.toList.reverse.toArray := by
  have e : ∀ m, m ∈ List.range xs.size → xs[(((xs.size : Int) - 1) + (m : Int) * (-1)).toNat]? = xs[xs.size - 1 - m]? := by
    intro m hm
    have := List.mem_range.mp hm
    have q : (((xs.size : Int) - 1) + (m : Int) * (-1)).toNat = xs.size - 1 - m := by omega
    rw [q]
  have e3 : ((List.range xs.size).filterMap fun (m : Nat) => xs[(((xs.size : Int) - 1) + (m : Int) * (-1)).toNat]?) = (List.range xs.size).filterMap fun m => xs[xs.size - 1 - m]? :=
    filterMap_cong e
  rw [e3]
  have e4 : ((List.range xs.size).filterMap fun m => xs[xs.size - 1 - m]?) = ((List.range xs.size).map fun k => xs.size - 1 - k).filterMap (xs[·]?) := by
    rw [List.filterMap_map]; rfl
  rw [e4, PySem.W.krv_range, List.filterMap_reverse, PySem.W.krv_all]
theorem getItem_tuple_rev {t sl : Addr} {items : Array Value} {vs : Value} {Q : Value → Shared → Prop} (ht : IsTup s.heap t items) (hs : s.heap.IsSliceOf sl .none .none vs) (ps : IsPart vs (some (-1)))
    (h : Q (.ref s.heap.objs.size) { s with heap := s.heap.push { cls := .type "tuple", data := .seq items.toList.reverse.toArray } })
    (hsz : items.size ≤ sizeLine) : wpAny (model prog w) A (getItem (.ref t) (.ref sl)) Q E s := by
  have htake : sizeOk (.seq items.toList.reverse.toArray) := by
    show items.toList.reverse.toArray.size ≤ sizeLine
    rw [List.size_toArray, List.length_reverse, Array.length_toList]
    exact hsz
  obtain ⟨os, hos, hcs, hds⟩ := id hs
  have hTs : s.TypeIs (.ref sl) "slice" := ⟨os, hos, hcs⟩
  unfold getItem
  try with_reducible refine wpAny_holding ?_
  first | refine wpAny_bind (wpAny_pure ?_) | skip
  refine wpAny_bind (wpAny_sequenceKey ht.typeIs (by decide) ?_)
  refine wpAny_bind (wpAny_callSpecial?_slot (name := Str.ofString "__getitem__") ht.typeIs PyProof.Rows.slot_tuple_getitem
    (wpAny_call_entry PyProof.Rows.slot_tuple_getitem ht.typeIs entry_tuple_getitem ?_ (args_tuple_getitem _ _)))
  show wpAny _ _ (Builtin.Tuple.tupleItemsOf (.ref t) >>= _) _ _ s
  refine wpAny_bind (tupleItemsOf_ ht ?_)
  refine wpAny_bind (wpAny_typeOf hTs ?_)
  rw [if_pos (by decide)]
  refine wpAny_bind (sliceApplied_rev hs ps ?_)
  have hno : ¬ ((((items.size : Int) - 1) == 0 && (-1 : Int) == 1 && items.size == items.size) = true) := by
    intro q
    rw [Bool.and_eq_true, Bool.and_eq_true] at q
    exact absurd q.1.2 (by decide)
  show wpAny _ _ (if (((items.size : Int) - 1) == 0 && (-1 : Int) == 1 && items.size == items.size) = true then _ else _) _ _ s
  rw [if_neg hno, pick_rev]
  first
    | exact wpAny_bind (m := Builtin.Tuple.tupleExact _) (wpAny_newObj_type (wpAny_pure ⟨_, rfl, wpAny_pure h⟩) htake)
    | exact wpAny_bind (m := Builtin.Tuple.tupleExact _) (wpAny_newObj_type (wpAny_bind (wpAny_pure (wpAny_pure ⟨_, rfl, wpAny_pure h⟩))) htake)
    | exact wpAny_bind (wpAny_bind (m := Builtin.Tuple.tupleExact _) (wpAny_newObj_type (wpAny_pure (wpAny_pure ⟨_, rfl, wpAny_pure h⟩)) htake))
    | exact wpAny_bind (wpAny_bind (m := Builtin.Tuple.tupleExact _) (wpAny_newObj_type (wpAny_pure ⟨_, rfl, wpAny_pure h⟩) htake))
end
/-- t[::-1], a tuple -/
def tRevT (K : PySem.W.Frag) (te : TE) : TE := fun σ H Q => te σ H fun x H1 => ∃ a xs, x = .ref a ∧ SqT K H1 a xs ∧ ∀ p, H1 p = none → Q (.ref p) (upd H1 p (.tup xs.reverse))
theorem pe_revT {X : Cx} {e : Expr} {te : TE} {k : Nat} {p1 p2 p3 pos : Pos} (he : PE X e te) : PE X (.Subscript e (.Slice none none (some (.UnaryOp .USub (.Constant (.int 1) k p1) p2)) p3) pos) (tRevT X.K te) := by
  refine ⟨fun pins s σ H Q I h => ?_⟩
  refine Subscript_ (thn (he.run pins s σ H _ I h) fun v s1 ⟨x, H1, I1, r1, q1⟩ => ?_)
  obtain ⟨a, xs, ex, hx, q⟩ := q1
  subst ex
  cases r1
  have hst : PO X (some (.UnaryOp .USub (.Constant (.int 1) k p1) p2)) (tPart (tUn (rU fun i => .int (-i)) (tC (.int 1)))) := po_some (pe_un un_neg pe_int)
  refine wpAny_Slice (thn (po_none.run pins s1 σ H1 (fun o H2 => o = none ∧ H2 = H1) I1 ⟨rfl, rfl⟩) fun vl s2 ⟨l, H2, I2, pl, el, e2⟩ => ?_)
  subst el e2
  refine thn (po_none.run pins s2 σ H2 (fun o H3 => o = none ∧ H3 = H2) I2 ⟨rfl, rfl⟩) fun vu s3 ⟨u, H3, I3, pu, eu, e3⟩ => ?_
  subst eu e3
  refine thn (hst.run pins s3 σ H3 (fun o H4 => o = some (-1) ∧ H4 = H3) I3 ⟨1, rfl, -1, rfl, rfl, rfl⟩) fun vs s4 ⟨o, H4, I4, ps, eo, e4⟩ => ?_
  subst eo e4
  have I5 : Inv X pins σ H4 { s4 with heap := s4.heap.push { cls := .type "slice", data := .fields #[vl, vu, vs] } } := I4.kept (t' := s4.toks) fun b ob q => Heap.get?_push_of_some _ q
  obtain ⟨its, r, ht, hz⟩ := I5.tuple hx
  have hlen := r.length
  cases pl
  cases pu
  show wpAny (model X.prog X.w) X.A (subscriptTail e (.Slice none none (some (.UnaryOp .USub (.Constant (.int 1) k p1) p2)) p3) (.ref a) (.ref s4.heap.objs.size)) (EP X pins σ Q) X.xe { s4 with heap := s4.heap.push { cls := .type "slice", data := .fields #[.none, .none, vs] } }
  refine tail_any (ops := [.ref a, .ref s4.heap.objs.size]) ht.typeIs (PyProof.Rows.slot_tuple_getitem.lookup) ?_ (by with_unfolding_all rfl)
  refine getItem_tuple_rev ht (Heap.IsSliceOf.new _ .none .none vs) ps ?_ (by rw [List.size_toArray]; omega)
  refine ⟨.ref _, _, I5.laid (t' := s4.toks) (o := .tup xs.reverse) (fun b ob q => Heap.get?_push_of_some _ q) (Nat.le_refl _) ?_, rfl, q _ (I5.hok.fresh (Nat.le_refl _))⟩
  exact ⟨by rw [List.length_reverse]; exact hz, _, r.reverse, IsTup.new _ _⟩
end VR

/-! Small words: lists of ints as values, heaps that grow. -/
namespace VR
open PySem PySem.Spec PyProof.Rows L2
def iz (xs : List Int) : List V := xs.map V.int
theorem iz_get {xs : List Int} {i : Nat} {x : Int} (h : xs[i]? = some x) : (iz xs)[i]? = some (V.int x) := by unfold iz; rw [List.getElem?_map, h]; rfl
theorem of_iz_get {xs : List Int} {i : Nat} {v : V} (h : (iz xs)[i]? = some v) : ∃ x, xs[i]? = some x ∧ v = V.int x := by
  unfold iz at h
  rw [List.getElem?_map] at h
  cases e : xs[i]? with
  | none => rw [e] at h; cases h
  | some x => rw [e] at h; exact ⟨x, rfl, (Option.some.inj h).symm⟩
theorem iz_len (xs : List Int) : (iz xs).length = xs.length := by simp [iz]
theorem iz_set (xs : List Int) (j : Nat) (x : Int) : (iz xs).set j (V.int x) = iz (xs.set j x) := by simp [iz, List.map_set]
theorem smallL {n : Nat} (h : n ≤ 10000) : n ≤ sizeLine := by rw [sizeLine_eq]; omega
theorem _root_.L2.Same.tup {K : PySem.W.Frag} {H H' : Hp} {a : Addr} {xs : List V} (e : Same H H') (h : SqT K H a xs) : SqT K H' a xs := by
  rcases h with (h | ⟨o, h⟩) | h
  · exact .inl (.inl (e _ _ h))
  · exact .inl (.inr ⟨o, e _ _ h⟩)
  · exact .inr h
theorem _root_.L2.Same.new {H : Hp} {p : Addr} {o : HO} (h : H p = none) : Same H (upd H p o) := fun b u e => by rw [upd_ne (ne_of_none e h)]; exact e
theorem _root_.L2.Same.upd0 {H H' : Hp} {l : Addr} {o : HO} (e : Same H H') (h : H l = none) : Same H (upd H' l o) := fun b u q => by rw [upd_ne (ne_of_none q h)]; exact e b u q
theorem _root_.L2.Same.upN {H H' : Hp} {l : Addr} {o : HO} (e : Same H H') (h : H' l = none) : Same H (upd H' l o) := e.trans (L2.Same.new h)
theorem ite_max (a b : Nat) : (if (b : Int) > (a : Int) then V.int (b : Int) else V.int (a : Int)) = V.int ((max a b : Nat) : Int) := by
  split <;> congr 1 <;> omega
theorem iz_rep (n : Nat) : (List.replicate n [V.int 0]).flatten = iz (List.replicate n 0) := by
  induction n with
  | zero => rfl
  | succ n ih => rw [List.replicate_succ, List.flatten_cons, ih, List.replicate_succ]; rfl
theorem ixN_nat {n k : Nat} (h : k < n) : ixN n (k : Int) = some k := by
  unfold ixN
  rw [if_pos (by omega), if_pos (by omega)]
  simp

/-- a store to an object that is no tuple leaves the tuples -/
theorem _root_.L2.SqT.updNT {K : PySem.W.Frag} {H : Hp} {a p : Addr} {xs : List V} {o u : HO} (h : SqT K H a xs) (hp : H p = some u) (nt : ∀ ys, u ≠ .tup ys) (nf : ∀ ob v, u ≠ .frz ob v) : SqT K (upd H p o) a xs := by
  rcases h with (h | ⟨ob, h⟩) | h
  · exact .inl (.inl (by rw [upd_ne (ne_of h hp fun e => nt _ e.symm)]; exact h))
  · exact .inl (.inr ⟨ob, by rw [upd_ne (ne_of h hp fun e => nf _ _ e.symm)]; exact h⟩)
  · exact .inr h
theorem _root_.L2.SqT.updIns {K : PySem.W.Frag} {H : Hp} {a p C dx : Addr} {xs : List V} {o : HO} {fs : List (Str × V)} (h : SqT K H a xs) (hp : H p = some (.ins C dx fs)) : SqT K (upd H p o) a xs := h.updNT hp (fun _ e => nomatch e) (fun _ _ e => nomatch e)
end VR

/-! Tuples of ints as data. -/
namespace VR
open PySem PySem.Spec PyProof.Rows L2
def dI (xs : List Int) : PyData := .tuple (xs.map PyData.int)
theorem eqvAll_ints : ∀ xs ys : List Int, PyData.eqvAll (xs.map PyData.int) (ys.map PyData.int) = decide (xs = ys)
  | [], [] => by simp [PyData.eqvAll]
  | [], _ :: _ => by simp [PyData.eqvAll]
  | _ :: _, [] => by simp [PyData.eqvAll]
  | x :: xs, y :: ys => by
    rw [List.map_cons, List.map_cons, PyData.eqvAll, eqvAll_ints xs ys, PyData.eqv]
    by_cases h : x = y <;> by_cases g : xs = ys <;> simp [h, g]
theorem eqv_ints (xs ys : List Int) : PyData.eqv (dI xs) (dI ys) = decide (xs = ys) := by
  unfold dI
  rw [PyData.eqv, eqvAll_ints]
theorem canAll_ints : ∀ xs : List Int, PyData.canLayAll0 (xs.map PyData.int) = true
  | [] => by simp [PyData.canLayAll0]
  | x :: xs => by rw [List.map_cons, PyData.canLayAll0, canAll_ints xs, PyData.canLay0]; rfl
theorem depth_ints : ∀ xs : List Int, PyData.depthAll (xs.map PyData.int) = 0
  | [] => by simp [PyData.depthAll]
  | x :: xs => by rw [List.map_cons, PyData.depthAll, depth_ints xs, PyData.depth]; rfl
theorem shaped_ints (xs : List Int) : SeqAt.shaped (dI xs) = true := by
  unfold SeqAt.shaped dI
  rw [PyData.canLay0, canAll_ints, PyData.depth, depth_ints]
  rfl
theorem dpAll_ints {K : PySem.W.Frag} {H : Hp} : ∀ xs : List Int, DpAll K H (iz xs) (xs.map PyData.int)
  | [] => .nil
  | x :: xs => .cons (.int x) (dpAll_ints xs)
theorem dp_ints {K : PySem.W.Frag} {H : Hp} {a : Addr} {xs : List Int} (h : SqT K H a (iz xs)) : Dp K H (.ref a) (dI xs) := .tup h (dpAll_ints xs)
/-- a term of types for isinstance -/
theorem kit_cls_ref {K : PySem.W.Frag} {C : Addr} {t : Value} {b : Bool} (h1 : PySem.W.isClsIn K C = true) (h2 : PySem.W.typeIn K (.ref C) = some (.type "type")) (h3 : (t == .ref C) = false) (h4 : PySem.W.subIn K t (.ref C) = some b) : PySem.W.kitOne K t (.ref C) = some b := by
  unfold PySem.W.kitOne PySem.W.kitCls
  have h1' : (PySem.W.clsIn K C).isSome = true := h1
  rw [h3, if_neg (by decide)]
  show (if ((PySem.W.clsIn K C).isSome && PySem.W.typeIn K (Value.ref C) == some (Value.type "type")) = true then PySem.W.subIn K t (Value.ref C) else none) = some b
  rw [h1', h2, if_pos (by rfl), h4]
theorem kit_self {K : PySem.W.Frag} {t : Value} (h : (t == t) = true) : PySem.W.kitOne K t t = some true := by
  unfold PySem.W.kitOne
  rw [if_pos h]
end VR

/-! Own exceptions with their own __init__, as values. -/
namespace VX
open PySem PySem.W PySem.Calls PyProof.Rows PySem.HandSPX Builtin Builtin.ObjectAttr
section
variable {prog : Program} {w : World} {M : Model} {A : Around} {E : Value → Shared → Prop} {R : Result → Shared → Prop} {h : Heap} {g : Array GenState} {d : Drawn} {t : Nat} {os : OsState}
variable {nm q : Str} {C N : Addr} {bs bm bmB : List Value} {hdct : Bool} {sn : List Str} {sub : List Value} {ab : Bool} {col : Option Bool} {dd : Option Addr} {k0 k1 k2 k3 k5 : Option Value} {B newId initId : String}
theorem newC (F : ExcBaseFacts B newId initId bmB) (hT : ∀ Y : String, bm.contains (.type Y) = bmB.contains (.type Y)) {us : List Value} {kw : List (Str × Value)} {Q : Unit → Shared → Prop}
    (hC : h.get? C = some (excClassObj nm q C N bs bm hdct sn sub ab col dd k0 k1 k2 k3 k5 newId)) (hq : Q () ⟨h, g, d, t, os⟩) : wpAny M A (checkBuiltinCall newId ⟨.ref C :: us, kw⟩) Q E ⟨h, g, d, t, os⟩ := by
  have z1 : (Value.ref C :: bm).contains (.type B) = true := by rw [List.contains_cons, hT, F.hasB, Bool.or_true]
  have z2 := F.noStar
  simp only [checkBuiltinCall, F.newKind, F.newSplit, F.newRow]
  repeat (first | refine wpAny_loadPart_at hC ?_ | (refine wpAny_isSubtype_exc hC ?_; rw [z1]) | refine wpAny_staticBase_exc hC ?_ | refine wpAny_madeBy_exc hC ?_ | simp only [bne_self_eq_false, Bool.false_eq_true, if_false] | wp_step)
  exact hq
end
section
variable {prog : Program} {w : World} {A : Around} {E : Value → Shared → Prop} {R : Result → Shared → Prop} {h : Heap} {g : Array GenState} {d : Drawn} {t : Nat} {os : OsState}
variable {nm q : Str} {C N : Addr} {bs bm bmB : List Value} {hdct : Bool} {sn : List Str} {sub : List Value} {ab : Bool} {col : Option Bool} {dd : Option Addr} {k0 k1 k2 k3 k5 : Option Value} {B newId initId : String}
theorem newR (F : ExcBaseFacts B newId initId bmB) (hT : ∀ Y : String, bm.contains (.type Y) = bmB.contains (.type Y)) {us : List Value} {kw : List (Str × Value)}
    (hC : h.get? C = some (excClassObj nm q C N bs bm hdct sn sub ab col dd k0 k1 k2 k3 k5 newId))
    (hq : R (.ok (.ret (.ref (h.objs.size + 1)))) ⟨(h.push { cls := .type "tuple", data := .seq us.toArray }).push (excO C h.objs.size), g, d, t, os⟩) (hz : us.length ≤ sizeLine) :
    codeAny (model prog w) A (.builtin newId ⟨.ref C :: us, kw⟩) R ⟨h, g, d, t, os⟩ := by
  have z0 := F.ends
  have z1 : (Value.ref C :: bm).contains (.type B) = true := by rw [List.contains_cons, hT, F.hasB, Bool.or_true]
  have z2 : (Value.ref C :: bm).contains (.type "AttributeError") = false := by rw [List.contains_cons, hT, F.noAttr]; rfl
  have z3 : (Value.ref C :: bm).contains (.type "NameError") = false := by rw [List.contains_cons, hT, F.noName]; rfl
  refine codeAny_builtinAt F.entry ?_
  unfold Builtin.«BaseException.__new__»
  refine PySem.wpAt_bind ?_
  show PySem.wpAt _ _ _ (stack >>= _) _ _ _
  refine PySem.wpAt_bind (PySem.wpAt_stack fun p below => PySem.wpAt_of_wpAny ?_)
  wp_walk
  refine PySem.wpAt_of_wpAny ?_
  rw [F.owner]
  repeat (first | with_reducible refine wpAny_madeHere_exc F.canon hC ?_ | with_reducible refine wpAny_loadPart_at hC ?_ | (with_reducible refine wpAny_isSubtype_exc hC ?_; first | rw [z1] | rw [z2] | rw [z3]) | wp_step)
  show R _ _
  rw [Heap.size_push]
  exact hq
theorem tcR (F : ExcBaseFacts B newId initId bmB) (hT : ∀ Y : String, bm.contains (.type Y) = bmB.contains (.type Y)) {us : List Value} {kw : List (Str × Value)} {fI : Addr} {Q : Fin → Shared → Prop}
    (hC : h.get? C = some (excClassObj nm q C N bs bm hdct sn sub ab col dd k0 k1 k2 k3 k5 newId))
    (hi : W.Looks (model prog w) h (typeLookup (.ref C) "__init__") (some (.ref fI))) (hb : ∀ self, W.Looks (model prog w) h (bindSpecial (.ref fI) self) (.ref fI, [self])) (hz : us.length ≤ sizeLine)
    (hq : codeAny (model prog w) A (.call (.ref fI) ⟨.ref (h.objs.size + 1) :: us, kw⟩)
      (fun r s' => match r with | .ok (.ret v) => v = .none ∧ Q (.done (.ret (.ref (h.objs.size + 1)))) s' | .ok _ => False | .error e => E e s')
      ⟨(h.push (W.kdv_tup us)).push (excO C h.objs.size), g, d, t, os⟩) :
    wpAny (model prog w) A (Builtin.«type.__call__» ⟨.ref C :: us, kw⟩) Q E ⟨h, g, d, t, os⟩ := by
  repeat (first | with_reducible refine wpAny_loadPart_at hC ?_ | with_reducible refine wpAny_madeBy_exc hC ?_ | wp_step)
  refine codeAny_call_builtin_code (Code.quiet_builtin _ F.quiet) (newC F hT hC ?_)
  refine newR F hT hC ?_ hz
  show wpAny _ _ _ _ _ _
  have k : ∀ b o, h.get? b = some o → ((h.push (W.kdv_tup us)).push (excO C h.objs.size)).get? b = some o := fun b o e => Heap.get?_push_of_some _ (Heap.get?_push_of_some _ e)
  have y1 := k _ _ hC
  have y2 : ((h.push (W.kdv_tup us)).push (excO C h.objs.size)).get? (h.objs.size + 1) = some (excO C h.objs.size) := by heap_get
  have y3 : (Value.ref C :: bm).contains (.ref C) = true := by simp
  have i1 := hi.keeps k
  have b1 := (hb (.ref (h.objs.size + 1))).keeps k
  unfold isInstance
  repeat (first | with_reducible refine wpAny_loadPart_at y2 ?_ | (with_reducible refine wpAny_isSubtype_exc y1 ?_; rw [y3]) | wp_step)
  show wpAny _ _ (typeLookup (.ref C) _) _ _ _
  refine i1.at ?_
  refine wpAny_holding (wpAny_bind (b1.at ?_))
  refine wpAny_bind (wpAny_call (codeAny_mono hq fun r s' z => ?_))
  rcases r with e | (v | _ | _ | _) <;> first | exact z | exact z.elim | skip
  obtain ⟨rfl, z⟩ := z
  first
    | exact wpAny_pure (wpAny_pure z)
    | (wp_walk; exact z)
theorem tcC {M : Model} {us : List Value} {kw : List (Str × Value)} {Q : Unit → Shared → Prop} (hC : h.get? C = some (excClassObj nm q C N bs bm hdct sn sub ab col dd k0 k1 k2 k3 k5 newId))
    (hq : Q () ⟨h, g, d, t, os⟩) : wpAny M A (checkBuiltinCall "type.__call__" ⟨.ref C :: us, kw⟩) Q E ⟨h, g, d, t, os⟩ := by
  have z1 := tc_sub
  have z2 : (⟨h, g, d, t, os⟩ : Shared).TypeIs (.ref C) "type" := ⟨_, hC, rfl⟩
  simp only [checkBuiltinCall, tc_kind, tc_split]
  repeat (any_goals (first | assumption | with_reducible refine wpAny_loadPart_at hC ?_ | with_reducible refine wpAny_onRaise ?_ | with_reducible refine wpAny_map ?_ | wp_step))
/-- C(.., k = v, ..): the exception's own __init__ is called with the same -/
theorem callX (F : ExcBaseFacts B newId initId bmB) (hT : ∀ Y : String, bm.contains (.type Y) = bmB.contains (.type Y)) {us : List Value} {kw : List (Str × Value)} {fI : Addr}
    (hC : h.get? C = some (excClassObj nm q C N bs bm hdct sn sub ab col dd k0 k1 k2 k3 k5 newId))
    (hi : W.Looks (model prog w) h (typeLookup (.ref C) "__init__") (some (.ref fI))) (hb : ∀ self, W.Looks (model prog w) h (bindSpecial (.ref fI) self) (.ref fI, [self])) (hz : us.length ≤ sizeLine)
    (hq : codeAny (model prog w) (A.under (.builtin "type.__call__" ⟨.ref C :: us, kw⟩)) (.call (.ref fI) ⟨.ref (h.objs.size + 1) :: us, kw⟩) (W.InitBack (h.objs.size + 1) R)
      ⟨(h.push (W.kdv_tup us)).push (excO C h.objs.size), g, d, t, os⟩) :
    codeAny (model prog w) A (.call (.ref C) ⟨us, kw⟩) R ⟨h, g, d, t, os⟩ := by
  have f1 := tc_lookup
  have f2 := tc_bind (.ref C)
  have z2 : (⟨h, g, d, t, os⟩ : Shared).TypeIs (.ref C) "type" := ⟨_, hC, rfl⟩
  refine codeAny_of_tree ?_
  show wpAny _ _ (callAny (.ref C) _) _ _ _
  repeat (any_goals (first | assumption | with_reducible refine wpAny_loadPart_at hC ?_ | wp_step))
  refine ⟨rfl, ?_⟩
  refine codeAny_call_builtin_at (Code.quiet_builtin _ (by decide +kernel)) entry_typeCall (tcC hC (tcR F hT hC hi hb hz ?_))
  refine codeAny_mono hq fun r s' z => ?_
  rcases r with e | (v | _ | _ | _) <;> exact z
end
end VX

namespace VX
open PySem PySem.W PySem.Calls PyProof.Rows PySem.HandSPX Builtin Builtin.ObjectAttr
section
variable {prog : Program} {w : World} {A : Around} {R : Result → Shared → Prop} {hp : Heap} {g : Array GenState} {d : Drawn} {t : Nat} {os : OsState}
/-- self.x = v on an exception without a dict, whatever its built-in base -/
theorem osaX {K : W.Frag} {name : Str} {tk : Tok} {v : Value} {x C : Addr} {fv : Array Value} {cd : ClassData}
    (X : K.In hp) (hx : hp.get? x = some { cls := .ref C, data := .fields fv }) (hcd : W.clsIn K C = some cd) (ne : cd.mro.isEmpty = false) (hob : cd.mro.contains (.type "object") = true)
    (hr : ∀ self, refuseLoop self "__setattr__" cd.mro = pure ()) (hh : cd.hasDict = true) (ha : W.findIn K (.ref C) name = some none)
    (hq : ∀ h' tk' dx, (∀ b o, b ≠ x → hp.get? b = some o → h'.get? b = some o) → hp.objs.size ≤ dx → dx ≠ x → h'.get? x = some { cls := .ref C, dict := some dx, data := .fields fv } →
      h'.Ns1 dx (fun y => if y = name then some v else none) → R (.ok (.ret .none)) ⟨h', g, d, tk', os⟩) :
    codeAny (model prog w) A (.call (.builtin "object.__setattr__") ⟨[.ref x, .str name tk, v], []⟩) R ⟨hp, g, d, t, os⟩ := by
  have I : W.InstAt hp x { cls := .ref C, data := .fields fv } C none := ⟨hx, rfl, rfl, trivial⟩
  have F := PySem.F.store_object
  have dif : hp.objs.size ≠ x := (Nat.ne_of_lt (Heap.lt_size hx)).symm
  have isob : W.Looks (model prog w) hp (isInstance (.ref x) (.type "object")) true := I.type.andThen (W.looks_mroIn X (by unfold W.mroIn; rw [hcd, Option.bind_some, if_neg (by rw [ne]; decide), hob]))
  refine codeAny_call_builtin F.slot.plain F.entry (@W.check_slot (model prog w) _ _ ⟨hp, g, d, t, os⟩ "object.__setattr__" "object" "__setattr__" (.ref x) [.str name tk, v] [] _ F.kind F.split isob (F.args (.ref x) (.str name tk) v) ?_)
  have lm : W.Looks (model prog w) hp (mroOf (.ref C)) cd.mro := (W.looks_clsIn X hcd).andThen .now
  have lt : W.Looks (model prog w) hp (storeTaker? none) none := .now
  have lc : W.Looks (model prog w) hp (classData C) cd := W.looks_clsIn X hcd
  rw [W.osa_eq, refuse_eq]
  refine wpAny_bind (wpAny_bind (I.type.at (wpAny_bind (lm.at ?_))))
  rw [hr]
  refine wpAny_pure (wpAny_bind (I.type.at (wpAny_bind ((W.looks_findIn X ha).at (wpAny_bind (lt.at ?_))))))
  show wpAny _ _ (storeInOwnDict (.ref x) (.ref C) (.str name tk) name v false) _ _ _
  obtain ⟨nm, bs, mro, ns, qn, hd, sn, sb, ab, col, del⟩ := cd
  dsimp only at hh
  subst hh
  unfold storeInOwnDict ownDictForStores
  repeat (first | with_reducible refine store_in_new ?_ ?_ | with_reducible refine wpAny_loadPart_at hx ?_ | with_reducible refine lc.at ?_ | wp_step)
  · exact ⟨_, #[], _, (Heap.get?_update_ne _ _ _ _ dif).trans (Heap.get?_push_at rfl rfl), rfl, fun e he => absurd he (by simp), fun _ => rfl⟩
  · intro h' tk' hn' hs
    have x1 : (hp.push { cls := .type "dict", data := .dict #[] }).get? x = some { cls := .ref C, data := .fields fv } := Heap.get?_push_of_some _ hx
    refine hq h' tk' hp.objs.size (fun b o hb ho => ?_) (Nat.le_refl _) dif ?_ hn'
    · exact (hs.2 b (Nat.ne_of_lt (Heap.lt_size ho))).trans ((Heap.get?_update_ne _ _ _ _ hb).trans (Heap.get?_push_of_some _ ho))
    · exact (hs.2 x dif.symm).trans (Heap.get?_update_self _ x1 rfl)
end
end VX
namespace VX
open PySem PySem.Spec PyProof.Rows L2 VR

/-- an own exception class with an own __init__, no matter which built-in class it hangs on -/
structure OxC (K : PySem.W.Frag) (C : Addr) : Prop where
  cls : ∃ nm q N bs bm sn sub ab col dd k0 k1 k2 k3 k5 B newId initId bmB, ExcBaseFacts B newId initId bmB ∧ K.lookup C = some (excClassObj nm q C N bs bm true sn sub ab col dd k0 k1 k2 k3 k5 newId) ∧
    (∀ Y : String, bm.contains (.type Y) = bmB.contains (.type Y)) ∧ (∀ self, refuseLoop self "__setattr__" (.ref C :: bm) = pure ()) ∧ bm.contains (.type "object") = true
  sa : PySem.W.findIn K (.ref C) "__setattr__" = some (some (.builtin "object.__setattr__"))
  kC : PySem.W.keepIn K (.ref C) = true
  ga : PySem.W.findIn K (.ref C) "__getattribute__" = some (some (.builtin "BaseException.__getattribute__"))
  gg : PySem.W.findIn K (.ref C) "__getattr__" = some none
  ex : PySem.W.subIn K (.ref C) (.type "BaseException") = some true
  ac : PySem.W.findIn K (.ref C) "__class__" = some (some (.builtin "object.__class__"))
  an : PySem.W.specialIn K (.builtin "object.__class__") "__get__" = some (some (.builtin "getset_descriptor.__get__"))
  tk : PySem.W.takesIn K (.builtin "object.__class__") = some true
  mo : PySem.W.mroIn K C (.type "object") = some true
theorem OxC.cin {K : PySem.W.Frag} {C : Addr} (T : OxC K C) : (PySem.W.clsIn K C).isSome = true := by
  obtain ⟨nm, q, N, bs, bm, sn, sub, ab, col, dd, k0, k1, k2, k3, k5, B, ni, ii, bmB, _, hC, _⟩ := T.cls
  unfold PySem.W.clsIn; rw [hC]; rfl
theorem OxC.hd {K : PySem.W.Frag} {C : Addr} (T : OxC K C) : PySem.W.hasDictIn K C = true := by
  obtain ⟨nm, q, N, bs, bm, sn, sub, ab, col, dd, k0, k1, k2, k3, k5, B, ni, ii, bmB, _, hC, _⟩ := T.cls
  unfold PySem.W.hasDictIn PySem.W.clsIn; rw [hC]; rfl
/-- an exception of the class at C, its one field f holding v -/
def ExAt (H : Hp) (x : V) (C : Addr) (f : Str) (v : V) : Prop := ∃ a dx : Addr, x = .ref a ∧ H a = some (exo a C (some dx)) ∧ H dx = some (exd dx [(f, v)])
theorem ExAt.same {H H' : Hp} {x v : V} {C : Addr} {f : Str} (h : ExAt H x C f v) (s : Same H H') : ExAt H' x C f v := by
  obtain ⟨a, dx, e, h1, h2⟩ := h
  exact ⟨a, dx, e, s _ _ h1, s _ _ h2⟩
/-- self.f = e in such an __init__ -/
def tOx (K : PySem.W.Frag) (f : Str) (to te : TE) : TS := fun D σ H => te σ H fun y H1 => to σ H1 fun x H2 => ∃ a C : Addr, x = .ref a ∧ OxC K C ∧ PySem.W.findIn K (.ref C) f = some none ∧
  H2 a = some (exo a C none) ∧ ∀ dx, H2 dx = none → dx ≠ a → D.nx σ (upd (upd H2 dx (exd dx [(f, y)])) a (exo a C (some dx)))
section
variable {X : Cx} {pins : List (Addr × Obj)} {σ : L2.St} {H : Hp} {s : Shared} {a C dx : Addr} {f : Str} {y : V} {u : Value} {E : Value → Shared → Prop} {A : Around}
theorem putX {Q : Unit → Shared → Prop} (T : OxC X.K C) (I : Inv X pins σ H s) (e : H a = some (exo a C none)) (hno : PySem.W.findIn X.K (.ref C) f = some none) (ry : RelV y u)
    (h : ∀ dx s', H dx = none → dx ≠ a → Inv X pins σ (upd (upd H dx (exd dx [(f, y)])) a (exo a C (some dx))) s' → Q () s') : wpAny (model X.prog X.w) A (setAttr (.ref a) f u) Q E s := by
  obtain ⟨nm, q, N, bs, bm, sn, sub, ab, col, dd, k0, k1, k2, k3, k5, B, ni, ii, bmB, _, hC, _, hr, hob⟩ := T.cls
  have hcl : PySem.W.clsIn X.K C = some { name := nm, bases := bs, mro := .ref C :: bm, ns := N, qualname := q, hasDict := true, slotNames := sn, subclasses := sub, abstract := ab, collection := col, hasDel := false } := by unfold PySem.W.clsIn; rw [hC] <;> rfl
  obtain ⟨t1, ho⟩ := exo_at I.hok e
  obtain ⟨hp, g, d, t, os⟩ := s
  refine PySem.W.set_plain I.kIn (ox := { cls := .ref C, dict := none, data := .fields #[.ref t1, .none, .none, .none, .bool false, .none] }) (od := none) ⟨ho, rfl, rfl, trivial⟩ T.sa ?_
  refine osaX I.kIn ho hcl rfl (by show (Value.ref C :: bm).contains (.type "object") = true; rw [List.contains_cons, hob, Bool.or_true]) hr rfl hno (fun h' tk' dx k dn dne hx hn => ?_)
  have gone : H dx = none := I.hok.fresh dn
  have low : ∀ {b : Addr} {o : Obj}, hp.get? b = some o → b ≠ dx := fun {b o} q => Nat.ne_of_lt (Nat.lt_of_lt_of_le (Heap.lt_size q) dn)
  have apart : ∀ {b : Addr}, H b = none → b ≠ a := fun {b} n z => by
    rw [z, e] at n
    cases n
  have U : Un X.fs [] H (upd (upd H dx (exd dx [(f, y)])) a (exo a C (some dx))) hp h' := {
    keep := fun b o q n _ _ => k b o (apart n) q
    slot := fun b o q n _ _ => ⟨o.slots, k b o (apart n) q⟩
    free := fun b o q n _ => by rw [upd_ne (apart n), upd_ne (low q)]; exact n
    there := fun b o q _ => by
      by_cases hb : b = a
      · exact ⟨_, by rw [hb]; exact hx⟩
      · exact ⟨o, k b o hb q⟩
    tups := fun b xs q => by rw [upd_ne (at_ne e q exo_tup), upd_ne (ne_of_none q gone)]; exact q
    frzs := fun b o v q => by rw [upd_ne (at_ne e q exo_frz), upd_ne (ne_of_none q gone)]; exact q
    tbls := fun b ps q => ⟨#[], by rw [upd_ne (at_ne e q exo_tbl), upd_ne (ne_of_none q gone), q]; simp⟩ }
  refine h dx _ gone dne (I.un (t' := tk') U fun b o q => ?_)
  by_cases hb : b = a
  · subst hb
    rw [upd_same] at q
    cases q
    exact exo_ok hx
  rw [upd_ne hb] at q
  by_cases hd : b = dx
  · subst hd
    rw [upd_same] at q
    cases q
    exact exd_ok hn (relO_put (fs := []) ry fun g => True.intro)
  rw [upd_ne hd] at q
  refine (I.hok b o q).stay (fun c v hc z => k c v ?_ z) (fun c hc => ?_) (fun c xs hc => ?_)
  · rcases hc with hc | hc
    · rw [hc]
      exact hb
    · exact at_ne e hc exo_own
  · rw [upd_ne (at_ne e hc exo_own), upd_ne (ne_of_none hc gone)]; exact hc
  · rw [upd_ne (at_ne e hc exo_tup), upd_ne (ne_of_none hc gone)]; exact hc
end
theorem ps_ox {X : Cx} {o e : Expr} {to te : TE} {f : Str} {p' pos : Pos} (ho : PE X o to) (he : PE X e te) (hs : swapsWith e (some (.Attribute o f p')) pos.line X.env = pure false := by rfl) : PS X (.Assign [.Attribute o f p'] e pos) (tOx X.K f to te) := by
  refine ⟨fun pins s σ H D I h => ?_⟩
  refine plainObj_wpAny_Assign_Attribute (thn (he.run pins s σ H _ I h) fun v s1 ⟨y, H1, I1, r1, q1⟩ => thn (ho.run pins s1 σ H1 _ I1 q1) fun u s2 ⟨x, H2, I2, r2, a, C, ex, T, hno, ea, q⟩ => ?_) hs
  subst ex
  obtain rfl : u = Value.ref a := r2
  exact putX T I2 ea hno r1 fun dx s' n ne J => ⟨σ, _, J, q dx n ne⟩
/-- what __init__(self, v) promises -/
def spOx (K : PySem.W.Frag) (C : Addr) (f : Str) : Sp := fun vs H Q E => ∃ (a : Addr) (v : V), vs = [.ref a, v] ∧ H a = some (exo a C none) ∧ ∀ dx, H dx = none → dx ≠ a → Q .non (upd (upd H dx (exd dx [(f, v)])) a (exo a C (some dx)))
section
variable {X : Cx} {CX : CXT} {k : Nat} {fI C : Addr} {fd : FuncData} {p1 p2 : Str} {f x : Str} {e : Expr} {te : TE} {p pos kpos : Pos}
/-- the class, its __init__ and what that keeps -/
structure OxI (X : Cx) (CX : CXT) (C fI : Addr) (fd : FuncData) (k : Nat) (f : Str) : Prop where
  T : OxC X.K C
  no : PySem.W.findIn X.K (.ref C) f = some none
  iC : PySem.W.findIn X.K (.ref C) "__init__" = some (some (.ref fI))
  tI : PySem.W.typeIn X.K (.ref fI) = some (.type "function")
  F : FnOk X.prog X.w X.K X.mg X.base CX k fI fd [("self" : Str), f] (spOx X.K C f)
theorem runX {pins : List (Addr × Obj)} {σ : L2.St} {H : Hp} {s : Shared} {Q : VK} {us : List Value} {kw : List (Str × Value)} {v : V} {u : Value} (O : OxI X CX C fI fd k f) (hr : Room (k + 1) X.A) (hx : Passes CX X (fun _ _ _ => False))
    (I : Inv X pins σ H s) (hl : us.length ≤ sizeLine) (hb : ∀ (s : Shared) (a : Addr), X.K.In s.heap → BindsTo s fd ⟨.ref a :: us, kw⟩ (([("self" : Str), f]).zip [.ref a, u])) (ru : RelV v u)
    (h : ∀ x H2, Same H H2 → ExAt H2 x C f v → Q x H2) : wpAny (model X.prog X.w) X.A (call (.ref C) us kw) (EP X pins σ Q) X.xe s := by
  obtain ⟨nm, q, N, bs, bm, sn, sub, ab, col, dd, k0, k1, k2, k3, k5, B, ni, ii, bmB, FB, hC, hT, _⟩ := O.T.cls
  obtain ⟨hp, g, dr, tk, os⟩ := s
  have hsz : hp.objs.size ≤ hp.objs.size + 1 := Nat.le_succ _
  have hn : H (hp.objs.size + 1) = none := I.hok.fresh hsz
  have kk : ∀ b o, hp.get? b = some o → ((hp.push (PySem.W.kdv_tup us)).push (PySem.HandSPX.excO C hp.objs.size)).get? b = some o := fun b o e => Heap.get?_push_of_some _ (Heap.get?_push_of_some _ e)
  have hget : ((hp.push (PySem.W.kdv_tup us)).push (PySem.HandSPX.excO C hp.objs.size)).get? (hp.objs.size + 1) = some (PySem.HandSPX.excO C hp.objs.size) := by heap_get
  have I2 : Inv X pins σ (upd H (hp.objs.size + 1) (exo (hp.objs.size + 1) C none)) ⟨(hp.push (PySem.W.kdv_tup us)).push (PySem.HandSPX.excO C hp.objs.size), g, dr, tk, os⟩ :=
    I.laid (t' := tk) (a := hp.objs.size + 1) (o := exo (hp.objs.size + 1) C none) (h' := (hp.push (PySem.W.kdv_tup us)).push (PySem.HandSPX.excO C hp.objs.size)) kk hsz (exo_ok hget)
  have sp : spOx X.K C f [.ref (hp.objs.size + 1), v] (upd H (hp.objs.size + 1) (exo (hp.objs.size + 1) C none)) (fun w H2 => w = .non ∧ Q (.ref (hp.objs.size + 1)) H2) (fun _ _ _ => False) := by
    refine ⟨_, v, rfl, upd_same, fun dx h1 h2 => ⟨rfl, h _ _ ?_ ⟨_, dx, rfl, upd_same, ?_⟩⟩⟩
    · have hd : H dx = none := by rw [upd_ne h2] at h1; exact h1
      intro b o eb
      have b1 : b ≠ hp.objs.size + 1 := ne_of_none eb hn
      have b2 : b ≠ dx := ne_of_none eb hd
      rw [upd_ne b1, upd_ne b2, upd_ne b1]
      exact eb
    · rw [upd_ne h2, upd_same]
  have r2 : Vals [V.ref (hp.objs.size + 1), v] [Value.ref (hp.objs.size + 1), u] := .cons rfl (.cons ru .nil)
  refine wpAny_call (callX FB hT (I.kIn _ _ hC) (PySem.W.looks_findIn I.kIn O.iC) (fun self => PySem.W.bind_fn I.kIn self O.tI) hl
    (codeAny_mono (O.F.run _ X.stack _ _ ⟨Value.ref (hp.objs.size + 1) :: us, kw⟩ [Value.ref (hp.objs.size + 1), u] _ _ (fun _ _ _ => False) (hr.make C us kw) (I2.env0.make C us kw) (hb _ _ I2.kIn) r2 sp) fun r s' hq' => ?_))
  cases r with
  | error er => exact hx pins σ _ _ er s' I2 hq'
  | ok fl =>
    cases fl with
    | ret u =>
      obtain ⟨w, H', I3, rv, ev, q3⟩ := I2.after hq'
      subst ev
      exact ⟨rv, ⟨V.ref (hp.objs.size + 1), H', I3, rfl, q3⟩⟩
    | next => exact False.elim hq'
    | brk => exact False.elim hq'
    | cont => exact False.elim hq'
/-- C(e) -/
def tOxV (C : Addr) (f : Str) (te : TE) : TE := fun σ H Q => te σ H fun v H1 => ∀ x H2, Same H1 H2 → ExAt H2 x C f v → Q x H2
theorem pe_oxP (O : OxI X CX C fI fd k f) (hr : Room (k + 1) X.A) (hx : Passes CX X (fun _ _ _ => False)) (hb : ∀ (s : Shared) (a : Addr) (u : Value), X.K.In s.heap → BindsTo s fd ⟨[.ref a, u], []⟩ (([("self" : Str), f]).zip [.ref a, u]))
    (hg : Gl X x) (hm : X.mg x = some (.ref C)) (he : PE X e te) (hdb : (x == ("__debug__" : Str)) = false := by decide) (hs : starEach [e] X.env = (false, eval e X.env) :: starEach [] X.env := by rfl) :
    PE X (.Call (.Name x p) [e] [] pos) (tOxV C f te) := by
  refine ⟨fun pins s σ H Q I h => ?_⟩
  refine wpAny_Call_Name_kw (ld_glob I hg hm ?_ hdb)
  refine PySem.W.callWith_K (h₀ := X.base) I.ok.mod.kin O.T.kC ?_ hs (by rfl)
  rw [hs]
  show wpAny _ _ (spliced ((false, eval e X.env) :: backTo pos (starEach [] X.env))) _ _ s
  refine Calls.spliced_cons (thn (he.run pins s σ H _ I h) fun u s1 ⟨v, H1, I1, r1, q1⟩ => ?_)
  refine Calls.spliced_nil ⟨I1.kIn, ?_⟩
  exact runX (us := [u]) (kw := []) O hr hx I1 (by show 1 ≤ sizeLine; rw [sizeLine_eq]; omega) (fun s a K => hb s a u K) r1 q1
/-- C(f=e) -/
theorem pe_oxK (O : OxI X CX C fI fd k f) (hr : Room (k + 1) X.A) (hx : Passes CX X (fun _ _ _ => False)) (hb : ∀ (s : Shared) (a : Addr) (u : Value), X.K.In s.heap → BindsTo s fd ⟨[.ref a], [(f, u)]⟩ (([("self" : Str), f]).zip [.ref a, u]))
    (hg : Gl X x) (hm : X.mg x = some (.ref C)) (he : PE X e te) (hdb : (x == ("__debug__" : Str)) = false := by decide) :
    PE X (.Call (.Name x p) [] [⟨some f, e, kpos⟩] pos) (tOxV C f te) := by
  refine ⟨fun pins s σ H Q I h => ?_⟩
  refine wpAny_Call_Name_kw (ld_glob I hg hm ?_ hdb)
  refine PySem.W.callWith_KW0 (h₀ := X.base) I.ok.mod.kin O.T.kC (by rfl) ?_ (by rfl)
  refine thn ((pk_cons (nm := some f) (kpos := kpos) he pk_nil).run pos pins s σ H (fun zs H2 => match zs with | [v] => ∀ x H3, Same H2 H3 → ExAt H3 x C f v → Q x H3 | _ => False) I h) fun ws s2 ⟨zs, H2, I2, rz, q2⟩ => ⟨I2.kIn, ?_⟩
  match zs, ws, rz, q2 with
  | [v], _, .cons r1 .nil, q2 => exact runX (us := []) (kw := [(f, _)]) O hr hx I2 (Nat.zero_le _) (fun s a K => hb s a _ K) r1 q2
end
end VX

namespace VX
open PySem PySem.Spec PyProof.Rows L2 VR
/-! ### fields, isinstance -/
def tOxF (K : PySem.W.Frag) (f : Str) (te : TE) : TE := fun σ H Q => te σ H fun x H1 => ∃ (C : Addr) (v : V), ExAt H1 x C f v ∧ OxC K C ∧ PySem.W.findIn K (.ref C) f = some none ∧ Q v H1
theorem pe_oxf {X : Cx} {e : Expr} {te : TE} {pos : Pos} {n : Str} (he : PE X e te) (hb : attributeBase e n X.env (eval e X.env) = eval e X.env := by rfl) : PE X (.Attribute e n pos) (tOxF X.K n te) := by
  refine ⟨fun pins s σ H Q I h => ?_⟩
  refine attr_of hb (thn (he.run pins s σ H _ I h) fun u s1 ⟨x, H1, I1, rx, C, v, hx, T, hno, q⟩ => ?_)
  obtain ⟨a, dx, rfl, ea, ed⟩ := hx
  obtain rfl : u = Value.ref a := rx
  obtain ⟨t1, ho⟩ := exo_at I1.hok ea
  obtain ⟨mA, hns, hr⟩ := exd_at I1.hok ed
  obtain ⟨od, hod, hl⟩ := lookIn_ns hns
  obtain ⟨u, hu, ru⟩ := RelO.some_of (v := v) (o := mA n) (by have := hr n; simpa [List.lookup] using this)
  have J : PySem.W.InstAt s1.heap a _ C (some od) := ⟨ho, rfl, rfl, hod⟩
  exact HandSPX.exc_get I1.kIn J T.ga T.gg T.ex (PySem.W.findObj_own T.hd hno rfl (by rw [hl, hu])) (handed_of ru) ⟨v, H1, I1.tok _, ru, q⟩
/-- isinstance(e, c), e such an exception -/
def rIsX (K : PySem.W.Frag) : List V → Hp → VK → Prop := fun xs H Q => ∃ (x c : V) (cv : Value) (C : Addr) (f : Str) (v : V) (b : Bool), xs = [x, c] ∧ ClsV c cv ∧ ExAt H x C f v ∧ OxC K C ∧ PySem.W.kitOne K (.ref C) cv = some b ∧ Q (.bl b) H
theorem call_isX {X : Cx} : CallR X (.builtin "isinstance") (rIsX X.K) := by
  intro pins s σ H xs us Q I r h
  obtain ⟨x, c, cv, C, f, v, b, rfl, hc, hx, T, e, q⟩ := h
  obtain ⟨a, dx, rfl, ea, ed⟩ := hx
  obtain ⟨u1, u2, rfl, r1, r2⟩ := vals2 r
  have e2 := hc.eq r2
  subst e2
  obtain rfl : u1 = Value.ref a := r1
  obtain ⟨t1, ho⟩ := exo_at I.hok ea
  obtain ⟨mA, hns, hr⟩ := exd_at I.hok ed
  obtain ⟨od, hod, hl⟩ := lookIn_ns hns
  have J : PySem.W.InstAt s.heap a _ C (some od) := ⟨ho, rfl, rfl, hod⟩
  exact PySem.W.kia_one (PySem.W.kitx_exc T.cin T.ga T.gg T.ex T.ac T.an T.tk T.mo) I.kIn J e (fun z => nomatch z) fun tk => ⟨.bl b, H, I.tok tk, rfl, q⟩
/-! ### repr of a list -/
/-- the items' data: no dict among them, or all the one empty dict -/
def Rpd (K : PySem.W.Frag) (H : Hp) (vs : List V) (ds : List PyData) : Prop :=
  (DpAll K H vs ds ∧ PyData.hasDictAll ds = false) ∨ ∃ (b : Addr) (n : Nat), H b = some (.dT []) ∧ vs = List.replicate n (.ref b) ∧ ds = List.replicate n (.dict [])
theorem reads_dicts {h : Heap} {b : Addr} {o : Obj} {ep : Nat} (e : h.get? b = some o) (c : o.cls = .type "dict") (d : o.data = .dict #[] ep) (nb : b ≠ sysModules) : ∀ (n : Nat) (us : List Value), Vals (List.replicate n (V.ref b)) us →
    ∃ as, ReadsAll h us (List.replicate n (.dict [])) as ∧ sysModules ∉ as
  | 0, _, r => by
    cases r
    exact ⟨[], .nil, fun z => nomatch z⟩
  | n + 1, _, r => by
    rw [List.replicate_succ] at r
    cases r with
    | cons r1 r2 =>
      obtain ⟨as, h1, h2⟩ := reads_dicts e c d nb n _ r2
      obtain rfl := (show _ = Value.ref b from r1)
      refine ⟨([b] ++ []) ++ as, ?_, ?_⟩
      · rw [List.replicate_succ]
        exact .cons (.dict (kvs := []) e c d .nil .nil) h1
      · intro z
        rcases List.mem_append.mp z with z | z
        · simp at z
          exact nb z.symm
        · exact h2 z
theorem Rpd.reads {X : Cx} {pins : List (Addr × Obj)} {σ : L2.St} {H : Hp} {s : Shared} {vs : List V} {ds : List PyData} {us : List Value} (I : L2.Inv X pins σ H s) (h : Rpd X.K H vs ds) (r : Vals vs us) :
    ∃ as, ReadsAll s.heap us ds as ∧ (PyData.hasDictAll ds = true → sysModules ∉ as) := by
  rcases h with ⟨h1, h2⟩ | ⟨b, n, hb, rfl, rfl⟩
  · obtain ⟨as, q⟩ := Dp.readsAll I ds vs us h1 r
    exact ⟨as, q, fun z => by rw [h2] at z; cases z⟩
  · obtain ⟨_, nb, xs, pr, o, es, ep, e1, e2, e3, e4, _⟩ := (show ObjOk X.prog X.w H s.heap b (.dT []) from I.hok b _ hb)
    cases pr
    have es0 : es = #[] := by
      have : es.toList = [] := by rw [e4]; rfl
      exact Array.toList_eq_nil_iff.mp this
    subst es0
    obtain ⟨as, q, z⟩ := reads_dicts e1 e2.1 e3 (beq_eq_false_iff_ne.mp nb) n us r
    exact ⟨as, q, fun _ => z⟩
def rReprL (K : PySem.W.Frag) : List V → Hp → VK → Prop := fun xs H Q => ∃ (a : Addr) (v : V) (vs : List V) (ds : List PyData), xs = [.ref a] ∧ SqL K H a (v :: vs) ∧ Rpd K H (v :: vs) ds ∧ PyData.showableAll ds = true ∧ PyData.depthAll ds ≤ 8 ∧
  (listText (PyData.shownAll ds)).length ≤ sizeLine ∧ Q (.str (listText (PyData.shownAll ds))) H
theorem call_reprL {X : Cx} {k : Nat} (hg : X.A.guards = some []) (hr : Room k X.A) : CallR X (.builtin "repr") (rReprL X.K) := by
  intro pins s σ H xs us Q I r h
  obtain ⟨a, v, vs, ds, rfl, hl, hd, hs, hdp, hz, q⟩ := h
  obtain ⟨u, rfl, r1⟩ := vals1 r
  obtain rfl : u = Value.ref a := r1
  obtain ⟨its, rv, ⟨o, n, ho, hc, _, hda⟩, _⟩ := I.list hl
  obtain ⟨as, ra, hsm⟩ := hd.reads I rv
  cases rv with
  | @cons _ u0 _ ur r1 r2 =>
    obtain ⟨bs, hb, hk⟩ := ReprAllK.of_readsAll (prog := X.prog) (w := X.w) ra hs hsm (fun t ht => Nat.le_trans (listText_mem_le ht) hz)
    have hna : a ∉ bs := not_mem_of_deeper (.list ho hc hda (by simpa using ra)) (by simp only [PyData.depth]; omega) hb
    have hu := hr.units
    refine call_repr_slot (by omega) ⟨o, ho, hc⟩ F.slot_list_repr.toG ?_
    exact call_list_reprK ho hc hda hna (by simpa using hk.length_eq) (fun i y e => hk.item i y (by simpa using e)) (g := []) (by exact hg) (fun b _ => Clear.nil b) (by show X.A.units + 1 + _ < cLine; omega) (fun _ _ e => e)
      (fun h' u tk hk' => ⟨_, _, rfl, .str _, H, I.kept hk', ⟨u, rfl⟩, q⟩) hz
end VX

/-! A law whose def shows lists: its call where nothing is being shown yet. -/
namespace VX
open PySem PySem.Spec PyProof.Rows L2 VR
/-- the call keeps sp wherever nothing is being shown -/
def RunG (P : Program) (w : World) (K : PySem.W.Frag) (mg : Str → Option Value) (base : Heap) (CX : CXT) (k : Nat) (f : Addr) (fd : FuncData) (ps : List Str) (sp : Sp) : Prop :=
  ∀ (A : Around) (outer : List Env) (s : Shared) (H : Hp) (args : Args) (us : List Value) (vs : List V) (Q : VK) (E : XK), A.guards = some [] → Room k A → Env0 P w K mg base A outer s H → BindsTo s fd args (ps.zip us) → Vals vs us → sp vs H Q E →
    codeAny (model P w) A (.call (.ref f) args) (CR CX outer P w H s Q E) s
theorem runG_of {CX : CXT} {P : Program} {w : World} {K : PySem.W.Frag} {mg : Str → Option Value} {base : Heap} {k : Nat} {f : Addr} {name qual : Str} {params : Arguments} {body : List Stmt} {scope : Scope} {dV kV doc pm cdv ct oc : Value} {an od : Option Addr}
    {osl : Array (Option Value)} {N ps : List Str} {sp : Sp} (lk : K.lookup f = some ⟨oc, od, .func (PySem.W.fnOf name qual params body scope dV kV doc pm an cdv ct), osl⟩) (cdK : PySem.W.codeIn K cdv qual = true) (S : FnScope N ps scope)
    (len : ∀ vs H Q E, sp vs H Q E → vs.length = ps.length)
    (bd : ∀ (A : Around) (outer : List Env) (s : Shared) (H : Hp) (vs : List V) (Q : VK) (E : XK), A.guards = some [] → Room k (A.deeper (envOfC qual scope s.heap.objs.size f cdv)) → sp vs H Q E →
      ∃ t, PSs (cxOf CX P w K mg base N qual scope f cdv A outer s H E) body t ∧ t { nx := fun _ H' => Q .non H', rt := Q } (start N vs) H) :
    RunG P w K mg base CX (k + 1) f (PySem.W.fnOf name qual params body scope dV kV doc pm an cdv ct) ps sp := by
  intro A outer s H args us vs Q E hg room e0 hb r hsp
  have ln := len _ _ _ _ hsp
  have up : ∀ b o, base.get? b = some o → s.heap.get? b = some o := fun b o e => (e0.bs b o e).1
  have kinds : ∀ y ∈ ps.zip us, scope.names.lookup y.1 = some .local ∨ (scope.names.lookup y.1 = some .cell ∧ ((cellsFrom (s.heap.objs.size + 1) scope.names []).lookup y.1).isSome = true) := fun ⟨n, v⟩ hy =>
    (S.par n (List.of_mem_zip hy).1).imp id fun q => ⟨q, PySem.W.cellsFrom_some _ _ _ (.inl q)⟩
  have KX : K.In s.heap := e0.mod.kin.keeps up
  refine codeAny_call_function room.depth (KX _ _ lk) rfl S.co S.gen rfl (PySem.W.codeRec_of KX cdK) (hb _ _ _ _ (wpAny_newFunctionEnv_cells S.kind kinds fun env he s1 x => ?_))
  subst he
  refine ⟨(e0.mod.nolimit.keeps up).keeps x.toInCall.keep, codeAny_func ?_⟩
  obtain ⟨t, ht, hq⟩ := bd A outer s H vs Q E hg (room.deeper _) hsp
  refine wpAny_mono (ht.run [] s1 (start N vs) H _ (inv_start S room.hd e0 ln r x) hq) (fun fl s' hs => ?_) fun e s' hs => hs
  match fl, hs with
  | .ret u, ⟨v, σ', H', J, rv, q⟩ => exact ⟨v, H', J.os, J.bare, J.base, J.hok, rv, q⟩
  | .next, ⟨σ', H', J, q⟩ => exact ⟨V.non, H', J.os, J.bare, J.base, J.hok, rfl, q⟩
  | .brk, ⟨_, _, _, q⟩ => exact q.elim
  | .cont, ⟨_, _, _, q⟩ => exact q.elim
theorem okG {P : Program} {w : World} {K : PySem.W.Frag} {mg : Str → Option Value} {base : Heap} {x qual : Str} {st : Stmt} {f : Addr} {fd : FuncData} {N ps : List Str} {k : Nat} {sp : Sp} (F : Fun K x qual st f fd) (S : FnScope N ps (defScope st)) (len : ∀ vs H Q E, sp vs H Q E → vs.length = ps.length)
    (bd : ∀ (cdv : Value) (A : Around) (outer : List Env) (s : Shared) (H : Hp) (vs : List V) (Q : VK) (E : XK), A.guards = some [] → Room k (A.deeper (envOfC qual (defScope st) s.heap.objs.size f cdv)) → sp vs H Q E →
      ∃ t, PSs (cxOf CX0 P w K mg base N qual (defScope st) f cdv A outer s H E).nox (defBody st) t ∧ t { nx := fun _ H' => Q .non H', rt := Q } (start N vs) H) : RunG P w K mg base CX0 (k + 1) f fd ps sp := by
  obtain ⟨oc, od, kV, doc, pm, an, cdv, ct, osl, rfl, lk, hcd⟩ := F.ex
  refine runG_of lk hcd S len fun A outer s H vs Q E hg hr hsp => ?_
  obtain ⟨t, h, q⟩ := bd cdv A outer s H vs Q E hg hr hsp
  exact ⟨t, h.nox, q⟩
/-- the law's call -/
theorem callG {P : Program} {w : World} {K : PySem.W.Frag} {mg mb : Str → Option Value} {CX : CXT} {k : Nat} {fa a : Addr} {fd : FuncData} {x : Str} {sp : Sp} {s₁ : Shared} {vs : List Value} {ns : List Int}
    (KX : K.In s₁.heap) (hns : s₁.heap.Ns mainGlobals mg) (hb : s₁.heap.Ns builtinsNs mb) (hbb : ∀ x : Str, x ≠ "__name__" → mb x = bootBuiltins x) (lim : s₁.heap.NoLimit) (hg : s₁.gens = #[])
    (ha : s₁.heap.get? a = some { cls := .type "list", data := .seq vs.toArray }) (hi : IntsAre vs ns) (hl : ns.length ≤ sizeLine) (room : Room k callerA)
    (F : ∀ base : Heap, K.In base → base.Ns mainGlobals mg → RunG P w K mg base CX k fa fd [x] sp) (bind : ∀ (s : Shared) (u : Value), BindsTo s fd ⟨[u], []⟩ [(x, u)])
    (hsp : ∀ H : Hp, Only H → SqL K H a (ns.map V.int) → sp [.ref a] H (fun v _ => v = .bl true) fun _ _ _ => False)
    (hCX : ∀ H e s', CX [] H s₁ (fun _ _ _ => False) e s' → False) :
    codeAny (model P w) callerA (.call (.ref fa) ⟨[.ref a], []⟩) (fun r s' => r = .ok (.ret (.bool true)) ∧ OldK s₁.heap s'.heap ∧ s'.os = s₁.os ∧ AllBare s'.gens) s₁ := by
  have rv := vals_ints hi
  have lv := hi.length
  suffices main : ∀ H : Hp, Only H → SqL K H a (ns.map V.int) → HOk P w H s₁.heap → (∀ b, H b ≠ none → b = a ∧ K.lookup a = none) →
      codeAny (model P w) callerA (.call (.ref fa) ⟨[.ref a], []⟩) (fun r s' => r = .ok (.ret (.bool true)) ∧ OldK s₁.heap s'.heap ∧ s'.os = s₁.os ∧ AllBare s'.gens) s₁ by
    cases hk : K.lookup a with
    | some o =>
      have e := KX a o hk
      rw [ha] at e
      cases e
      exact main (fun _ => none) (fun _ => .inl rfl) (.inr ⟨_, vs.toArray, _, hk, rfl, rfl, rfl, by rw [List.size_toArray, lv]; exact hl, by simpa using rv⟩) (fun b u z => nomatch (show (none : Option HO) = some u from z)) fun b z => absurd rfl z
    | none =>
      refine main (fun b => if b = a then some (.frz { cls := .type "list", data := .seq vs.toArray } (.lst (ns.map V.int))) else none) (fun b => ?_) (.inl (.inr ⟨{ cls := .type "list", data := .seq vs.toArray }, if_pos rfl⟩)) (fun b u z => ?_) (fun b z => ?_)
      · by_cases hb : b = a
        · exact .inr ⟨_, _, if_pos hb⟩
        · exact .inl (if_neg hb)
      · by_cases hb : b = a
        · cases (if_pos hb).symm.trans z
          subst hb
          exact ⟨ha, by rw [List.length_map]; exact hl, vs, _, rv, ha⟩
        · cases (if_neg hb).symm.trans z
      · by_cases hb : b = a
        · exact ⟨hb, hk⟩
        · exact absurd (if_neg hb) z
  intro H only hS hok hA
  have free : ∀ {b : Addr} {o : Obj} {es : Array DictEntry} {ep : Nat}, s₁.heap.get? b = some o → o.data = .dict es ep → H b = none := fun {b o es ep} e d => by
    cases q : H b with
    | none => rfl
    | some u =>
      obtain ⟨rfl, _⟩ := hA b (by rw [q]; simp)
      rw [ha] at e
      cases e
      exact nomatch (show Data.seq vs.toArray _ = Data.dict es ep from d)
  have nsK : ∀ {b : Addr} {m : Str → Option Value}, s₁.heap.Ns b m → (hidT s₁.heap H).Ns b m := fun {b m} ⟨o, es, ep, e, d, r⟩ => ⟨o, es, ep, hidT_get e (free e d), d, r⟩
  have KB : K.In (hidT s₁.heap H) := fun b o e => hidT_get (KX b o e) (by
    cases q : H b with
    | none => rfl
    | some u =>
      obtain ⟨rfl, z⟩ := hA b (by rw [q]; simp)
      rw [z] at e
      cases e)
  obtain ⟨mc, m1, m2⟩ := lim
  have e0 : Env0 P w K mg (hidT s₁.heap H) callerA [] s₁ H :=
    ⟨rfl, ⟨KB, nsK hns, ⟨mb, nsK hb, hbb⟩, ⟨mc, nsK m1, m2⟩⟩, fun b o e => of_hidT e, Nat.le_of_eq (hidT_size _ _), trivial, fun b hb => absurd (show b ∈ ([] : List Addr) from hb) (by simp), hok, .of_eq hg⟩
  refine codeAny_mono (F _ KB (nsK hns) callerA [] s₁ H ⟨[.ref a], []⟩ [.ref a] [.ref a] _ _ rfl room e0 (bind s₁ (.ref a)) (.cons rfl .nil) (hsp H only hS)) fun r s' h => ?_
  match r, h with
  | .error e, h => exact (hCX H e s' h).elim
  | .ok .next, h => exact h.elim
  | .ok .brk, h => exact h.elim
  | .ok .cont, h => exact h.elim
  | .ok (.ret u), ⟨v, H', os, bare, un, hok', r', q⟩ =>
    obtain rfl : v = .bl true := q
    obtain rfl : u = Value.bool true := r'
    refine ⟨rfl, OldK.of_keep fun b o e => ?_, os, bare⟩
    rcases only b with z | ⟨ob, xs, z⟩
    · exact un.keep b o e z (fun z => nomatch (show b ∈ ([] : List Addr) from z)) (by simp)
    · obtain ⟨e1, _⟩ := hok b _ z
      obtain ⟨e2, _⟩ := hok' b _ (un.frzs b ob _ z)
      rw [e] at e1
      cases e1
      exact e2
theorem walk_G {l : PySem.W.OpenLaw} {n k : Nat} {q : Program} {loose : List Str} {XP : (Str → Option Value) → Heap → Prop} {YP : World → Heap → Prop} {d : DefRec} {K : Params → PySem.W.Frag} {CX : CXT} {sp : PySem.W.Frag → Sp} {x : Str}
    (hn : l.most = some n) (hn2 : n ≤ sizeLine) (hdf : d.params.defaults = []) (hr : Room k callerA)
    (hY : ∀ (w : World) (h : Heap), YP w h → (K w.params).In h)
    (F : ∀ (w : World) (mg : Str → Option Value) (fa : Addr) (h : Heap), (K w.params).In h → h.Ns mainGlobals mg → mg d.name = some (.ref fa) →
      ∃ fd : FuncData, (∀ (s : Shared) (u : Value), BindsTo s fd ⟨[u], []⟩ [(x, u)]) ∧
        ∀ base : Heap, (K w.params).In base → base.Ns mainGlobals mg → RunG l.prog w (K w.params) mg base CX k fa fd [x] (sp (K w.params)))
    (hsp : ∀ (K : PySem.W.Frag) (H : Hp) (a : Addr) (ns : List Int), ns.length ≤ n → Only H → SqL K H a (ns.map V.int) → sp K [.ref a] H (fun v _ => v = .bl true) fun _ _ _ => False)
    (hCX : ∀ (H : Hp) (s : Shared) (e : Value) (s' : Shared), CX [] H s (fun _ _ _ => False) e s' → False) :
    PySem.W.WalkO q loose XP YP l.row.toRowW d [] (fun f vs => PySem.call f vs) := by
  refine Att.attach_call hn hdf fun w s₀ s₁ mg mb fa o pm cd doc a vs ns G Y ho hd hcd hmg hobj hints hlen hg => ?_
  have KX := hY w _ Y
  obtain ⟨fd, bind, FF⟩ := F w mg fa _ KX G.T.g hmg
  exact callG KX G.T.g G.T.b G.T.builtins G.T.nolimit hg hobj hints (Nat.le_trans hlen hn2) hr FF bind (fun H only hS => hsp _ H a ns hlen only hS) fun H e s' => hCX H s₁ e s'
end VX

namespace K13
open PySem L2 VR VX StX RT
def top (i : Nat) : Stmt := PySem.Challenge.pw_farmisses_k13_errors_of_the_package.main.body.getD i (.Pass ⟨0, 0, 0, 0⟩)
abbrev S_InvalidText___init__ : Stmt := inClass (top 2) 0
theorem sc_InvalidText___init__ : FnScope ["self", "value"] ["self", "value"] (defScope S_InvalidText___init__) := ⟨rfl, rfl, rfl, by decide +kernel, rfl, by decide +kernel, by decide +kernel⟩
abbrev S_InvalidSyntax___init__ : Stmt := inClass (top 3) 0
theorem sc_InvalidSyntax___init__ : FnScope ["self", "position"] ["self", "position"] (defScope S_InvalidSyntax___init__) := ⟨rfl, rfl, rfl, by decide +kernel, rfl, by decide +kernel, by decide +kernel⟩
abbrev S_InvalidTree___init__ : Stmt := inClass (top 4) 0
theorem sc_InvalidTree___init__ : FnScope ["self", "value"] ["self", "value"] (defScope S_InvalidTree___init__) := ⟨rfl, rfl, rfl, by decide +kernel, rfl, by decide +kernel, by decide +kernel⟩
abbrev S_DuplicateName___init__ : Stmt := inClass (top 5) 0
theorem sc_DuplicateName___init__ : FnScope ["self", "name"] ["self", "name"] (defScope S_DuplicateName___init__) := ⟨rfl, rfl, rfl, by decide +kernel, rfl, by decide +kernel, by decide +kernel⟩
abbrev S_UnknownName___init__ : Stmt := inClass (top 6) 0
theorem sc_UnknownName___init__ : FnScope ["self", "name"] ["self", "name"] (defScope S_UnknownName___init__) := ⟨rfl, rfl, rfl, by decide +kernel, rfl, by decide +kernel, by decide +kernel⟩
abbrev S_TooLarge___init__ : Stmt := inClass (top 7) 0
theorem sc_TooLarge___init__ : FnScope ["self", "word"] ["self", "word"] (defScope S_TooLarge___init__) := ⟨rfl, rfl, rfl, by decide +kernel, rfl, by decide +kernel, by decide +kernel⟩
abbrev S_TooMany___init__ : Stmt := inClass (top 8) 0
theorem sc_TooMany___init__ : FnScope ["self", "word"] ["self", "word"] (defScope S_TooMany___init__) := ⟨rfl, rfl, rfl, by decide +kernel, rfl, by decide +kernel, by decide +kernel⟩
abbrev S_InvalidNumber___init__ : Stmt := inClass (top 9) 0
theorem sc_InvalidNumber___init__ : FnScope ["self", "value"] ["self", "value"] (defScope S_InvalidNumber___init__) := ⟨rfl, rfl, rfl, by decide +kernel, rfl, by decide +kernel, by decide +kernel⟩
abbrev S_InvalidCache___init__ : Stmt := inClass (top 10) 0
theorem sc_InvalidCache___init__ : FnScope ["self", "value"] ["self", "value"] (defScope S_InvalidCache___init__) := ⟨rfl, rfl, rfl, by decide +kernel, rfl, by decide +kernel, by decide +kernel⟩
abbrev S_OutOfRange___init__ : Stmt := inClass (top 11) 0
theorem sc_OutOfRange___init__ : FnScope ["self", "access"] ["self", "access"] (defScope S_OutOfRange___init__) := ⟨rfl, rfl, rfl, by decide +kernel, rfl, by decide +kernel, by decide +kernel⟩
abbrev S_InvalidOrder___init__ : Stmt := inClass (top 12) 0
theorem sc_InvalidOrder___init__ : FnScope ["self", "value"] ["self", "value"] (defScope S_InvalidOrder___init__) := ⟨rfl, rfl, rfl, by decide +kernel, rfl, by decide +kernel, by decide +kernel⟩
abbrev S_InvalidBlocks___init__ : Stmt := inClass (top 13) 0
theorem sc_InvalidBlocks___init__ : FnScope ["self", "value"] ["self", "value"] (defScope S_InvalidBlocks___init__) := ⟨rfl, rfl, rfl, by decide +kernel, rfl, by decide +kernel, by decide +kernel⟩
abbrev S_Uneven___init__ : Stmt := inClass (top 14) 0
theorem sc_Uneven___init__ : FnScope ["self", "name"] ["self", "name"] (defScope S_Uneven___init__) := ⟨rfl, rfl, rfl, by decide +kernel, rfl, by decide +kernel, by decide +kernel⟩
abbrev S_InvalidWeights___init__ : Stmt := inClass (top 15) 0
theorem sc_InvalidWeights___init__ : FnScope ["self", "value"] ["self", "value"] (defScope S_InvalidWeights___init__) := ⟨rfl, rfl, rfl, by decide +kernel, rfl, by decide +kernel, by decide +kernel⟩
abbrev S_InvalidEvent___init__ : Stmt := inClass (top 16) 0
theorem sc_InvalidEvent___init__ : FnScope ["self", "value"] ["self", "value"] (defScope S_InvalidEvent___init__) := ⟨rfl, rfl, rfl, by decide +kernel, rfl, by decide +kernel, by decide +kernel⟩
abbrev S_InvalidQuestion___init__ : Stmt := inClass (top 17) 0
theorem sc_InvalidQuestion___init__ : FnScope ["self", "position"] ["self", "position"] (defScope S_InvalidQuestion___init__) := ⟨rfl, rfl, rfl, by decide +kernel, rfl, by decide +kernel, by decide +kernel⟩
abbrev S_InvalidCommand___init__ : Stmt := inClass (top 18) 0
theorem sc_InvalidCommand___init__ : FnScope ["self", "word"] ["self", "word"] (defScope S_InvalidCommand___init__) := ⟨rfl, rfl, rfl, by decide +kernel, rfl, by decide +kernel, by decide +kernel⟩
abbrev S_LimitExceeded___init__ : Stmt := inClass (top 19) 0
theorem sc_LimitExceeded___init__ : FnScope ["self", "word"] ["self", "word"] (defScope S_LimitExceeded___init__) := ⟨rfl, rfl, rfl, by decide +kernel, rfl, by decide +kernel, by decide +kernel⟩
abbrev S_law_pool : Stmt := top 21
theorem sc_law_pool : FnScope ["_law_script", "_law_k", "_law_cell", "_law_heavy", "_law_blend", "_law_seed"] ["_law_script", "_law_k"] (defScope S_law_pool) := ⟨rfl, rfl, rfl, by decide +kernel, rfl, by decide +kernel, by decide +kernel⟩
abbrev S_law_take : Stmt := top 22
theorem sc_law_take : FnScope ["_law_pool_here", "_law_wide", "_law_result"] ["_law_pool_here", "_law_wide"] (defScope S_law_take) := ⟨rfl, rfl, rfl, by decide +kernel, rfl, by decide +kernel, by decide +kernel⟩
abbrev S_law_by_value : Stmt := top 23
theorem sc_law_by_value : FnScope ["_law_thing", "_law_found", "_law_error"] ["_law_thing"] (defScope S_law_by_value) := ⟨rfl, rfl, rfl, by decide +kernel, rfl, by decide +kernel, by decide +kernel⟩
abbrev S_law_by_word : Stmt := top 24
theorem sc_law_by_word : FnScope ["_law_thing", "_law_names", "_law_words", "_law_spots", "_law_told", "_law_error"] ["_law_thing"] (defScope S_law_by_word) := ⟨rfl, rfl, rfl, by decide +kernel, rfl, by decide +kernel, by decide +kernel⟩
abbrev S_law_all : Stmt := top 25
theorem sc_law_all : FnScope [] [] (defScope S_law_all) := ⟨rfl, rfl, rfl, by decide +kernel, rfl, by decide +kernel, by decide +kernel⟩
abbrev S_law_kinds : Stmt := top 26
theorem sc_law_kinds : FnScope ["_law_error", "_law_found"] ["_law_error"] (defScope S_law_kinds) := ⟨rfl, rfl, rfl, by decide +kernel, rfl, by decide +kernel, by decide +kernel⟩
abbrev S_law : Stmt := top 27
theorem sc_law : FnScope ["_law_script", "_law_pool_here", "_law_thing", "_law_every", "_law_at", "_law_error", "_law_late", "_law_place"] ["_law_script"] (defScope S_law) := ⟨rfl, rfl, rfl, by decide +kernel, rfl, by decide +kernel, by decide +kernel⟩
/-! ### the draws -/
structure Bn2 (mg : Str → Option Value) : Prop where
  len : mg "len" = none
  int : mg "int" = none
  abs : mg "abs" = none
/-- a pool stands at a -/
def PoolAt (H : Hp) (a : Addr) : Prop := ∃ p q : Int, H a = some (.lst [.int p, .int q]) ∧ 0 ≤ p
theorem b01 (b : Bool) : -(2 ^ 64) < (if b = true then (1 : Int) else 0) ∧ (if b = true then (1 : Int) else 0) < 2 ^ 64 := by cases b <;> decide
theorem nn01 (c : Int) (b : Bool) : 0 ≤ (if c < 0 then -c else c) * (if b = true then (1 : Int) else 0) := by
  refine Int.mul_nonneg ?_ ?_
  · split <;> omega
  · cases b <;> decide
def spPool (K : PySem.W.Frag) : Sp := fun vs H Q _ => ∃ (a : Addr) (ns : List Int) (k : Nat), vs = [.ref a, .int k] ∧ SqL K H a (iz ns) ∧ k ≤ 63 ∧ ns.length ≤ 63 ∧ ∀ p H', H p = none → Same H H' → PoolAt H' p → Q (.ref p) H'
def spTake : Sp := fun vs H Q _ => ∃ (a : Addr) (wd : Int), vs = [.ref a, .int wd] ∧ PoolAt H a ∧ 0 < wd ∧ wd < 1073741824 ∧ ∀ (r : Int) (H' : Hp), 0 ≤ r → r < wd → PoolAt H' a → (∀ b o, H b = some o → b ≠ a → H' b = some o) → (∀ b, H b = none → H' b = none) → Q (.int r) H'
section
variable {P : Program} {w : World} {K : PySem.W.Frag} {mg : Str → Option Value} {base : Heap}
theorem ok_pool {f : Addr} {fd : FuncData} (F : Fun K "_law_pool" "_law_pool" S_law_pool f fd) (B : Bn2 mg) : FnOk P w K mg base CX0 1 f fd ["_law_script", "_law_k"] (spPool K) := by
  refine F.ok sc_law_pool (fun vs H Q E h => ?_) (fun cdv A outer s H vs Q E hr h => ?_)
  · obtain ⟨a, ns, k, rfl, _⟩ := h; rfl
  · obtain ⟨a, ns, k, rfl, ha, hk, hl, q⟩ := h
    refine ⟨_, pss_cons (ps_set (i := 2) sc_law_pool.nd rfl (Or.inl rfl) pe_int)
      (pss_cons (ps_if (pt_cmpR op_lt (pv 1) (pe_callB call_len_seq (by rfl) B.len PySem.boot_len (pa_cons (pv 0) pa_nil)) (nomark _)) (pss_one (ps_set (i := 2) sc_law_pool.nd rfl (Or.inl rfl) (pe_ix ix_list (pv 0) (pv 1) (fun _ _ => rfl)))) pss_nil)
      (pss_cons (ps_set (i := 3) sc_law_pool.nd rfl (Or.inl rfl) (pe_callB call_abs (by rfl) B.abs (by decide +kernel) (pa_cons (pv 2) pa_nil)))
      (pss_cons (ps_set (i := 4) sc_law_pool.nd rfl (Or.inl rfl) (pe_op op_mod (pe_op op_mul (pe_callTy call_int1 (by rfl) B.int (by decide +kernel) (pa_cons (pe_op op_add (pe_op op_mod (pe_callTy call_int1 (by rfl) B.int (by decide +kernel) (pa_cons (pv 2) pa_nil)) pe_int) (pe_op op_mul pe_int (pe_op op_add (pv 1) pe_int))) pa_nil)) (pe_op op_add (pv 1) pe_int)) pe_int))
      (pss_cons (ps_set (i := 5) sc_law_pool.nd rfl (Or.inl rfl) (pe_op op_mod (pe_op op_mul (pe_op op_mod (pe_callTy call_int1 (by rfl) B.int (by decide +kernel) (pa_cons (pe_op op_mul (pv 4) (pv 4)) pa_nil)) pe_int) pe_int) pe_int))
      (pss_one (ps_ret (pe_lst (pa_cons (pe_op op_mul (pv 3) (pe_callTy call_int1 (by rfl) B.int (by decide +kernel) (pa_cons (pe_cmpR op_ge (pv 3) (pe_op op_pow pe_int pe_int) (nomark _)) pa_nil))) (pa_cons (pv 5) pa_nil))))))))), ?_⟩
    refine ⟨_, rfl, _, rfl, a, iz ns, rfl, .inl ha, _, _, rfl, rfl, _, rfl, ?_⟩
    rw [iz_len]
    have m0 : (0 : Int) < 2147483629 := by decide
    have m1 : (0 : Int) < 2147483647 := by decide
    refine ite2 (fun h => ?_) (fun h => ?_)
    · have hlt : k < ns.length := by have := of_decide_eq_true h; omega
      have hx : ns[k]? = some ns[k] := List.getElem?_eq_getElem hlt
      refine ⟨_, rfl, _, rfl, a, iz ns, _, _, rfl, rfl, ha, at_of (j := k) rfl (iz_get hx), ?_⟩
      generalize ns[k] = c
      refine ⟨_, rfl, c, rfl, ?_⟩
      refine ⟨_, rfl, .inl ⟨_, rfl, _, _, rfl, rfl, m0, _, rfl, _, _, rfl, rfl, _, _, rfl, rfl, .inl ⟨by decide, by decide⟩, _, _, rfl, rfl, .inl ⟨_, rfl, _, rfl, _, _, rfl, rfl, _, _, rfl, rfl, .inr ⟨by omega, by omega⟩, _, _, rfl, rfl, m0, ?_⟩⟩⟩
      have b0 := Int.emod_nonneg ((c % 2147483629 + 104729 * ((k : Int) + 1)) * ((k : Int) + 7)) (Int.ne_of_gt m0)
      have b1 := Int.emod_lt_of_pos ((c % 2147483629 + 104729 * ((k : Int) + 1)) * ((k : Int) + 7)) m0
      generalize (c % 2147483629 + 104729 * ((k : Int) + 1)) * ((k : Int) + 7) % 2147483629 = bl at b0 b1
      refine ⟨_, rfl, _, rfl, _, _, rfl, rfl, .inl ⟨by omega, by omega⟩, .inl ⟨_, rfl, _, _, rfl, rfl, m0, _, _, rfl, rfl, .inr ⟨by decide, by decide⟩, _, _, rfl, rfl, m1, ?_⟩⟩
      refine ⟨_, rfl, _, rfl, _, _, rfl, rfl, ⟨by decide, by decide, by decide⟩, _, _, rfl, rfl, .inr ⟨_, rfl, _, _, rfl, rfl, (.inr (b01 _)), _, rfl, by show 2 ≤ sizeLine; decide, fun p hp => q p _ hp (Same.new hp) ⟨_, _, upd_same, nn01 c _⟩⟩⟩
    · refine ⟨_, rfl, (0 : Int), rfl, ?_⟩
      refine ⟨_, rfl, .inl ⟨_, rfl, _, _, rfl, rfl, m0, _, rfl, _, _, rfl, rfl, _, _, rfl, rfl, .inl ⟨by decide, by decide⟩, _, _, rfl, rfl, .inl ⟨_, rfl, _, rfl, _, _, rfl, rfl, _, _, rfl, rfl, .inr ⟨by omega, by omega⟩, _, _, rfl, rfl, m0, ?_⟩⟩⟩
      have b0 := Int.emod_nonneg (((0 : Int) % 2147483629 + 104729 * ((k : Int) + 1)) * ((k : Int) + 7)) (Int.ne_of_gt m0)
      have b1 := Int.emod_lt_of_pos (((0 : Int) % 2147483629 + 104729 * ((k : Int) + 1)) * ((k : Int) + 7)) m0
      generalize ((0 : Int) % 2147483629 + 104729 * ((k : Int) + 1)) * ((k : Int) + 7) % 2147483629 = bl at b0 b1
      refine ⟨_, rfl, _, rfl, _, _, rfl, rfl, .inl ⟨by omega, by omega⟩, .inl ⟨_, rfl, _, _, rfl, rfl, m0, _, _, rfl, rfl, .inr ⟨by decide, by decide⟩, _, _, rfl, rfl, m1, ?_⟩⟩
      refine ⟨_, rfl, _, rfl, _, _, rfl, rfl, ⟨by decide, by decide, by decide⟩, _, _, rfl, rfl, .inr ⟨_, rfl, _, _, rfl, rfl, (.inr (b01 _)), _, rfl, by show 2 ≤ sizeLine; decide, fun p hp => q p _ hp (Same.new hp) ⟨_, _, upd_same, nn01 0 _⟩⟩⟩
end

section
variable {P : Program} {w : World} {K : PySem.W.Frag} {mg : Str → Option Value} {base : Heap}
theorem ok_take {f : Addr} {fd : FuncData} (F : Fun K "_law_take" "_law_take" S_law_take f fd) (B : Bn2 mg) : FnOk P w K mg base CX0 1 f fd ["_law_pool_here", "_law_wide"] spTake := by
  refine F.ok sc_law_take (fun vs H Q E h => ?_) (fun cdv A outer s H vs Q E hr h => ?_)
  · obtain ⟨a, wd, rfl, _⟩ := h; rfl
  · obtain ⟨a, wd, rfl, ⟨p, q, ha, hp⟩, hw, hw2, k⟩ := h
    refine ⟨_, pss_cons (ps_if (pt_cmpR op_gt (pe_ix ix_list (pv 0) pe_int (fun _ _ => rfl)) pe_int (nomark _))
        (pss_cons (ps_set (i := 2) sc_law_take.nd rfl (Or.inl rfl) (pe_op op_mod (pe_callTy call_int1 (by rfl) B.int (by decide +kernel) (pa_cons (pe_ix ix_list (pv 0) pe_int (fun _ _ => rfl)) pa_nil)) (pv 1)))
        (pss_cons (ps_asg (pe_op op_fdiv (pe_ix ix_list (pv 0) pe_int (fun _ _ => rfl)) (pv 1)) (pg_sub (pv 0) pe_int set_list))
        (pss_one (ps_ret (pv 2))))) pss_nil)
      (pss_cons (ps_asg (pe_op op_mod (pe_callTy call_int1 (by rfl) B.int (by decide +kernel) (pa_cons (pe_op op_add (pe_op op_mul (pe_ix ix_list (pv 0) pe_int (fun _ _ => rfl)) pe_int) pe_int) pa_nil)) pe_int) (pg_sub (pv 0) pe_int set_list))
      (pss_one (ps_ret (pe_op op_mod (pe_op op_fdiv (pe_op op_mod (pe_callTy call_int1 (by rfl) B.int (by decide +kernel) (pa_cons (pe_op op_mul (pe_ix ix_list (pv 0) pe_int (fun _ _ => rfl)) (pe_ix ix_list (pv 0) pe_int (fun _ _ => rfl))) pa_nil)) pe_int) pe_int) (pv 1))))), ?_⟩
    have m0 : (0 : Int) < 2147483629 := by decide
    have m1 : (0 : Int) < 2147483647 := by decide
    have L : SqL K H a [.int p, .int q] := .of ha
    refine ⟨_, rfl, a, _, _, .int p, rfl, rfl, L, at_of (j := 0) rfl rfl, _, _, rfl, rfl, _, rfl, ?_⟩
    refine ite2 (fun h => ?_) (fun h => ?_)
    · refine ⟨_, rfl, a, _, _, .int p, rfl, rfl, L, at_of (j := 0) rfl rfl, .inl ⟨_, rfl, _, rfl, _, _, rfl, rfl, hw, ?_⟩⟩
      refine ⟨_, rfl, a, _, _, .int p, rfl, rfl, L, at_of (j := 0) rfl rfl, _, rfl, _, _, rfl, rfl, ⟨hw, hw2⟩, _, rfl, a, _, _, 0, rfl, rfl, ha, rfl, ?_⟩
      refine ⟨_, rfl, k _ _ (Int.emod_nonneg _ (Int.ne_of_gt hw)) (Int.emod_lt_of_pos _ hw) ⟨p / wd, q, upd_same, Int.ediv_nonneg hp (Int.le_of_lt hw)⟩ (fun b o hb hne => by rw [upd_ne hne]; exact hb) (fun b hb => ?_)⟩
      rw [upd_ne (fun e => by rw [e, ha] at hb; cases hb)]; exact hb
    · refine ⟨_, rfl, a, _, _, .int q, rfl, rfl, L, at_of (j := 1) rfl rfl, _, _, rfl, rfl, .inr ⟨by decide, by decide⟩, _, _, rfl, rfl, .inl ⟨_, rfl, _, _, rfl, rfl, m1, ?_⟩⟩
      refine ⟨_, rfl, a, _, _, 1, rfl, rfl, ha, rfl, ?_⟩
      dsimp only [List.set]
      have b0 := Int.emod_nonneg (q * 48271 + 12345) (Int.ne_of_gt m1)
      have b1 := Int.emod_lt_of_pos (q * 48271 + 12345) m1
      generalize (q * 48271 + 12345) % 2147483647 = z at b0 b1
      have L2 : SqL K (upd H a (.lst [.int p, .int z])) a [.int p, .int z] := .of upd_same
      refine ⟨_, rfl, a, _, _, .int z, rfl, rfl, L2, at_of (j := 1) rfl rfl, _, rfl, a, _, _, .int z, rfl, rfl, L2, at_of (j := 1) rfl rfl, _, _, rfl, rfl, .inl ⟨by omega, by omega⟩, .inl ⟨_, rfl, _, _, rfl, rfl, m0, _, _, rfl, rfl, ⟨by decide, by decide⟩, _, rfl, _, _, rfl, rfl, hw, ?_⟩⟩
      refine k _ _ (Int.emod_nonneg _ (Int.ne_of_gt hw)) (Int.emod_lt_of_pos _ hw) ⟨p, z, upd_same, hp⟩ (fun b o hb hne => by rw [upd_ne hne]; exact hb) (fun b hb => ?_)
      rw [upd_ne (fun e => by rw [e, ha] at hb; cases hb)]; exact hb
end
/-! ### the classes -/
structure ErrC (P : Program) (w : World) (K : PySem.W.Frag) (mg : Str → Option Value) (base : Heap) (x : Str) (C : Addr) (f : Str) : Prop where
  T : OxC K C
  no : PySem.W.findIn K (.ref C) f = some none
  m : mg x = some (.ref C)
  i : ∃ (fI : Addr) (fd : FuncData), PySem.W.findIn K (.ref C) "__init__" = some (some (.ref fI)) ∧ PySem.W.typeIn K (.ref fI) = some (.type "function") ∧ FnOk P w K mg base CX0 1 fI fd [("self" : Str), f] (spOx K C f) ∧
    (∀ (s : Shared) (a : Addr) (u : Value), K.In s.heap → BindsTo s fd ⟨[.ref a, u], []⟩ (([("self" : Str), f]).zip [.ref a, u])) ∧
    (∀ (s : Shared) (a : Addr) (u : Value), K.In s.heap → BindsTo s fd ⟨[.ref a], [(f, u)]⟩ (([("self" : Str), f]).zip [.ref a, u]))
section
variable {X : Cx} {x : Str} {C : Addr} {f : Str} {e : Expr} {te : TE} {p pos kpos : Pos}
theorem pe_p (G : ErrC X.prog X.w X.K X.mg X.base x C f) (hr : Room 2 X.A) (he : PE X e te) (hg : Gl X x := by rfl) (hdb : (x == ("__debug__" : Str)) = false := by decide) (hs : starEach [e] X.env = (false, eval e X.env) :: starEach [] X.env := by rfl) :
    PE X (.Call (.Name x p) [e] [] pos) (tOxV C f te) := by
  obtain ⟨fI, fd, iC, tI, F, b1, b2⟩ := G.i
  exact pe_oxP ⟨G.T, G.no, iC, tI, F⟩ hr pass0 b1 hg G.m he hdb hs
theorem pe_k (G : ErrC X.prog X.w X.K X.mg X.base x C f) (hr : Room 2 X.A) (he : PE X e te) (hg : Gl X x := by rfl) (hdb : (x == ("__debug__" : Str)) = false := by decide) :
    PE X (.Call (.Name x p) [] [⟨some f, e, kpos⟩] pos) (tOxV C f te) := by
  obtain ⟨fI, fd, iC, tI, F, b1, b2⟩ := G.i
  exact pe_oxK ⟨G.T, G.no, iC, tI, F⟩ hr pass0 b2 hg G.m he hdb
end
section
variable {P : Program} {w : World} {K : PySem.W.Frag} {mg : Str → Option Value} {base : Heap}
theorem err_InvalidText {C fI : Addr} {fd : FuncData} (T : OxC K C) (no : PySem.W.findIn K (.ref C) "value" = some none) (m : mg "InvalidText" = some (.ref C)) (iC : PySem.W.findIn K (.ref C) "__init__" = some (some (.ref fI))) (tI : PySem.W.isFn K (.ref fI) = true)
    (F : Fun K "__init__" "InvalidText.__init__" S_InvalidText___init__ fI fd) : ErrC P w K mg base "InvalidText" C "value" := by
  refine ⟨T, no, m, fI, fd, iC, beq_iff_eq.mp tI, ?_, ?_, ?_⟩
  · refine F.ok sc_InvalidText___init__ (fun vs H Q E h => ?_) (fun cdv A outer s H vs Q E hr h => ?_)
    · obtain ⟨a, v, rfl, _⟩ := h; rfl
    · obtain ⟨a, v, rfl, ha, q⟩ := h
      exact ⟨_, pss_one (ps_ox (pv 0) (pv 1)), ⟨_, rfl, _, rfl, a, C, rfl, T, no, ha, fun dx h1 h2 => q dx h1 h2⟩⟩
  · obtain ⟨oc, od, kV, doc, pm, an, cdv, ct, osl, rfl, lk, hcd⟩ := F.ex
    exact fun s a u _ => .of_eq rfl
  · obtain ⟨oc, od, kV, doc, pm, an, cdv, ct, osl, rfl, lk, hcd⟩ := F.ex
    exact fun s a u _ => .of_eq rfl
theorem err_InvalidSyntax {C fI : Addr} {fd : FuncData} (T : OxC K C) (no : PySem.W.findIn K (.ref C) "position" = some none) (m : mg "InvalidSyntax" = some (.ref C)) (iC : PySem.W.findIn K (.ref C) "__init__" = some (some (.ref fI))) (tI : PySem.W.isFn K (.ref fI) = true)
    (F : Fun K "__init__" "InvalidSyntax.__init__" S_InvalidSyntax___init__ fI fd) : ErrC P w K mg base "InvalidSyntax" C "position" := by
  refine ⟨T, no, m, fI, fd, iC, beq_iff_eq.mp tI, ?_, ?_, ?_⟩
  · refine F.ok sc_InvalidSyntax___init__ (fun vs H Q E h => ?_) (fun cdv A outer s H vs Q E hr h => ?_)
    · obtain ⟨a, v, rfl, _⟩ := h; rfl
    · obtain ⟨a, v, rfl, ha, q⟩ := h
      exact ⟨_, pss_one (ps_ox (pv 0) (pv 1)), ⟨_, rfl, _, rfl, a, C, rfl, T, no, ha, fun dx h1 h2 => q dx h1 h2⟩⟩
  · obtain ⟨oc, od, kV, doc, pm, an, cdv, ct, osl, rfl, lk, hcd⟩ := F.ex
    exact fun s a u _ => .of_eq rfl
  · obtain ⟨oc, od, kV, doc, pm, an, cdv, ct, osl, rfl, lk, hcd⟩ := F.ex
    exact fun s a u _ => .of_eq rfl
theorem err_InvalidTree {C fI : Addr} {fd : FuncData} (T : OxC K C) (no : PySem.W.findIn K (.ref C) "value" = some none) (m : mg "InvalidTree" = some (.ref C)) (iC : PySem.W.findIn K (.ref C) "__init__" = some (some (.ref fI))) (tI : PySem.W.isFn K (.ref fI) = true)
    (F : Fun K "__init__" "InvalidTree.__init__" S_InvalidTree___init__ fI fd) : ErrC P w K mg base "InvalidTree" C "value" := by
  refine ⟨T, no, m, fI, fd, iC, beq_iff_eq.mp tI, ?_, ?_, ?_⟩
  · refine F.ok sc_InvalidTree___init__ (fun vs H Q E h => ?_) (fun cdv A outer s H vs Q E hr h => ?_)
    · obtain ⟨a, v, rfl, _⟩ := h; rfl
    · obtain ⟨a, v, rfl, ha, q⟩ := h
      exact ⟨_, pss_one (ps_ox (pv 0) (pv 1)), ⟨_, rfl, _, rfl, a, C, rfl, T, no, ha, fun dx h1 h2 => q dx h1 h2⟩⟩
  · obtain ⟨oc, od, kV, doc, pm, an, cdv, ct, osl, rfl, lk, hcd⟩ := F.ex
    exact fun s a u _ => .of_eq rfl
  · obtain ⟨oc, od, kV, doc, pm, an, cdv, ct, osl, rfl, lk, hcd⟩ := F.ex
    exact fun s a u _ => .of_eq rfl
theorem err_DuplicateName {C fI : Addr} {fd : FuncData} (T : OxC K C) (no : PySem.W.findIn K (.ref C) "name" = some none) (m : mg "DuplicateName" = some (.ref C)) (iC : PySem.W.findIn K (.ref C) "__init__" = some (some (.ref fI))) (tI : PySem.W.isFn K (.ref fI) = true)
    (F : Fun K "__init__" "DuplicateName.__init__" S_DuplicateName___init__ fI fd) : ErrC P w K mg base "DuplicateName" C "name" := by
  refine ⟨T, no, m, fI, fd, iC, beq_iff_eq.mp tI, ?_, ?_, ?_⟩
  · refine F.ok sc_DuplicateName___init__ (fun vs H Q E h => ?_) (fun cdv A outer s H vs Q E hr h => ?_)
    · obtain ⟨a, v, rfl, _⟩ := h; rfl
    · obtain ⟨a, v, rfl, ha, q⟩ := h
      exact ⟨_, pss_one (ps_ox (pv 0) (pv 1)), ⟨_, rfl, _, rfl, a, C, rfl, T, no, ha, fun dx h1 h2 => q dx h1 h2⟩⟩
  · obtain ⟨oc, od, kV, doc, pm, an, cdv, ct, osl, rfl, lk, hcd⟩ := F.ex
    exact fun s a u _ => .of_eq rfl
  · obtain ⟨oc, od, kV, doc, pm, an, cdv, ct, osl, rfl, lk, hcd⟩ := F.ex
    exact fun s a u _ => .of_eq rfl
theorem err_UnknownName {C fI : Addr} {fd : FuncData} (T : OxC K C) (no : PySem.W.findIn K (.ref C) "name" = some none) (m : mg "UnknownName" = some (.ref C)) (iC : PySem.W.findIn K (.ref C) "__init__" = some (some (.ref fI))) (tI : PySem.W.isFn K (.ref fI) = true)
    (F : Fun K "__init__" "UnknownName.__init__" S_UnknownName___init__ fI fd) : ErrC P w K mg base "UnknownName" C "name" := by
  refine ⟨T, no, m, fI, fd, iC, beq_iff_eq.mp tI, ?_, ?_, ?_⟩
  · refine F.ok sc_UnknownName___init__ (fun vs H Q E h => ?_) (fun cdv A outer s H vs Q E hr h => ?_)
    · obtain ⟨a, v, rfl, _⟩ := h; rfl
    · obtain ⟨a, v, rfl, ha, q⟩ := h
      exact ⟨_, pss_one (ps_ox (pv 0) (pv 1)), ⟨_, rfl, _, rfl, a, C, rfl, T, no, ha, fun dx h1 h2 => q dx h1 h2⟩⟩
  · obtain ⟨oc, od, kV, doc, pm, an, cdv, ct, osl, rfl, lk, hcd⟩ := F.ex
    exact fun s a u _ => .of_eq rfl
  · obtain ⟨oc, od, kV, doc, pm, an, cdv, ct, osl, rfl, lk, hcd⟩ := F.ex
    exact fun s a u _ => .of_eq rfl
theorem err_TooLarge {C fI : Addr} {fd : FuncData} (T : OxC K C) (no : PySem.W.findIn K (.ref C) "word" = some none) (m : mg "TooLarge" = some (.ref C)) (iC : PySem.W.findIn K (.ref C) "__init__" = some (some (.ref fI))) (tI : PySem.W.isFn K (.ref fI) = true)
    (F : Fun K "__init__" "TooLarge.__init__" S_TooLarge___init__ fI fd) : ErrC P w K mg base "TooLarge" C "word" := by
  refine ⟨T, no, m, fI, fd, iC, beq_iff_eq.mp tI, ?_, ?_, ?_⟩
  · refine F.ok sc_TooLarge___init__ (fun vs H Q E h => ?_) (fun cdv A outer s H vs Q E hr h => ?_)
    · obtain ⟨a, v, rfl, _⟩ := h; rfl
    · obtain ⟨a, v, rfl, ha, q⟩ := h
      exact ⟨_, pss_one (ps_ox (pv 0) (pv 1)), ⟨_, rfl, _, rfl, a, C, rfl, T, no, ha, fun dx h1 h2 => q dx h1 h2⟩⟩
  · obtain ⟨oc, od, kV, doc, pm, an, cdv, ct, osl, rfl, lk, hcd⟩ := F.ex
    exact fun s a u _ => .of_eq rfl
  · obtain ⟨oc, od, kV, doc, pm, an, cdv, ct, osl, rfl, lk, hcd⟩ := F.ex
    exact fun s a u _ => .of_eq rfl
theorem err_TooMany {C fI : Addr} {fd : FuncData} (T : OxC K C) (no : PySem.W.findIn K (.ref C) "word" = some none) (m : mg "TooMany" = some (.ref C)) (iC : PySem.W.findIn K (.ref C) "__init__" = some (some (.ref fI))) (tI : PySem.W.isFn K (.ref fI) = true)
    (F : Fun K "__init__" "TooMany.__init__" S_TooMany___init__ fI fd) : ErrC P w K mg base "TooMany" C "word" := by
  refine ⟨T, no, m, fI, fd, iC, beq_iff_eq.mp tI, ?_, ?_, ?_⟩
  · refine F.ok sc_TooMany___init__ (fun vs H Q E h => ?_) (fun cdv A outer s H vs Q E hr h => ?_)
    · obtain ⟨a, v, rfl, _⟩ := h; rfl
    · obtain ⟨a, v, rfl, ha, q⟩ := h
      exact ⟨_, pss_one (ps_ox (pv 0) (pv 1)), ⟨_, rfl, _, rfl, a, C, rfl, T, no, ha, fun dx h1 h2 => q dx h1 h2⟩⟩
  · obtain ⟨oc, od, kV, doc, pm, an, cdv, ct, osl, rfl, lk, hcd⟩ := F.ex
    exact fun s a u _ => .of_eq rfl
  · obtain ⟨oc, od, kV, doc, pm, an, cdv, ct, osl, rfl, lk, hcd⟩ := F.ex
    exact fun s a u _ => .of_eq rfl
theorem err_InvalidNumber {C fI : Addr} {fd : FuncData} (T : OxC K C) (no : PySem.W.findIn K (.ref C) "value" = some none) (m : mg "InvalidNumber" = some (.ref C)) (iC : PySem.W.findIn K (.ref C) "__init__" = some (some (.ref fI))) (tI : PySem.W.isFn K (.ref fI) = true)
    (F : Fun K "__init__" "InvalidNumber.__init__" S_InvalidNumber___init__ fI fd) : ErrC P w K mg base "InvalidNumber" C "value" := by
  refine ⟨T, no, m, fI, fd, iC, beq_iff_eq.mp tI, ?_, ?_, ?_⟩
  · refine F.ok sc_InvalidNumber___init__ (fun vs H Q E h => ?_) (fun cdv A outer s H vs Q E hr h => ?_)
    · obtain ⟨a, v, rfl, _⟩ := h; rfl
    · obtain ⟨a, v, rfl, ha, q⟩ := h
      exact ⟨_, pss_one (ps_ox (pv 0) (pv 1)), ⟨_, rfl, _, rfl, a, C, rfl, T, no, ha, fun dx h1 h2 => q dx h1 h2⟩⟩
  · obtain ⟨oc, od, kV, doc, pm, an, cdv, ct, osl, rfl, lk, hcd⟩ := F.ex
    exact fun s a u _ => .of_eq rfl
  · obtain ⟨oc, od, kV, doc, pm, an, cdv, ct, osl, rfl, lk, hcd⟩ := F.ex
    exact fun s a u _ => .of_eq rfl
theorem err_InvalidCache {C fI : Addr} {fd : FuncData} (T : OxC K C) (no : PySem.W.findIn K (.ref C) "value" = some none) (m : mg "InvalidCache" = some (.ref C)) (iC : PySem.W.findIn K (.ref C) "__init__" = some (some (.ref fI))) (tI : PySem.W.isFn K (.ref fI) = true)
    (F : Fun K "__init__" "InvalidCache.__init__" S_InvalidCache___init__ fI fd) : ErrC P w K mg base "InvalidCache" C "value" := by
  refine ⟨T, no, m, fI, fd, iC, beq_iff_eq.mp tI, ?_, ?_, ?_⟩
  · refine F.ok sc_InvalidCache___init__ (fun vs H Q E h => ?_) (fun cdv A outer s H vs Q E hr h => ?_)
    · obtain ⟨a, v, rfl, _⟩ := h; rfl
    · obtain ⟨a, v, rfl, ha, q⟩ := h
      exact ⟨_, pss_one (ps_ox (pv 0) (pv 1)), ⟨_, rfl, _, rfl, a, C, rfl, T, no, ha, fun dx h1 h2 => q dx h1 h2⟩⟩
  · obtain ⟨oc, od, kV, doc, pm, an, cdv, ct, osl, rfl, lk, hcd⟩ := F.ex
    exact fun s a u _ => .of_eq rfl
  · obtain ⟨oc, od, kV, doc, pm, an, cdv, ct, osl, rfl, lk, hcd⟩ := F.ex
    exact fun s a u _ => .of_eq rfl
theorem err_OutOfRange {C fI : Addr} {fd : FuncData} (T : OxC K C) (no : PySem.W.findIn K (.ref C) "access" = some none) (m : mg "OutOfRange" = some (.ref C)) (iC : PySem.W.findIn K (.ref C) "__init__" = some (some (.ref fI))) (tI : PySem.W.isFn K (.ref fI) = true)
    (F : Fun K "__init__" "OutOfRange.__init__" S_OutOfRange___init__ fI fd) : ErrC P w K mg base "OutOfRange" C "access" := by
  refine ⟨T, no, m, fI, fd, iC, beq_iff_eq.mp tI, ?_, ?_, ?_⟩
  · refine F.ok sc_OutOfRange___init__ (fun vs H Q E h => ?_) (fun cdv A outer s H vs Q E hr h => ?_)
    · obtain ⟨a, v, rfl, _⟩ := h; rfl
    · obtain ⟨a, v, rfl, ha, q⟩ := h
      exact ⟨_, pss_one (ps_ox (pv 0) (pv 1)), ⟨_, rfl, _, rfl, a, C, rfl, T, no, ha, fun dx h1 h2 => q dx h1 h2⟩⟩
  · obtain ⟨oc, od, kV, doc, pm, an, cdv, ct, osl, rfl, lk, hcd⟩ := F.ex
    exact fun s a u _ => .of_eq rfl
  · obtain ⟨oc, od, kV, doc, pm, an, cdv, ct, osl, rfl, lk, hcd⟩ := F.ex
    exact fun s a u _ => .of_eq rfl
theorem err_InvalidOrder {C fI : Addr} {fd : FuncData} (T : OxC K C) (no : PySem.W.findIn K (.ref C) "value" = some none) (m : mg "InvalidOrder" = some (.ref C)) (iC : PySem.W.findIn K (.ref C) "__init__" = some (some (.ref fI))) (tI : PySem.W.isFn K (.ref fI) = true)
    (F : Fun K "__init__" "InvalidOrder.__init__" S_InvalidOrder___init__ fI fd) : ErrC P w K mg base "InvalidOrder" C "value" := by
  refine ⟨T, no, m, fI, fd, iC, beq_iff_eq.mp tI, ?_, ?_, ?_⟩
  · refine F.ok sc_InvalidOrder___init__ (fun vs H Q E h => ?_) (fun cdv A outer s H vs Q E hr h => ?_)
    · obtain ⟨a, v, rfl, _⟩ := h; rfl
    · obtain ⟨a, v, rfl, ha, q⟩ := h
      exact ⟨_, pss_one (ps_ox (pv 0) (pv 1)), ⟨_, rfl, _, rfl, a, C, rfl, T, no, ha, fun dx h1 h2 => q dx h1 h2⟩⟩
  · obtain ⟨oc, od, kV, doc, pm, an, cdv, ct, osl, rfl, lk, hcd⟩ := F.ex
    exact fun s a u _ => .of_eq rfl
  · obtain ⟨oc, od, kV, doc, pm, an, cdv, ct, osl, rfl, lk, hcd⟩ := F.ex
    exact fun s a u _ => .of_eq rfl
theorem err_InvalidBlocks {C fI : Addr} {fd : FuncData} (T : OxC K C) (no : PySem.W.findIn K (.ref C) "value" = some none) (m : mg "InvalidBlocks" = some (.ref C)) (iC : PySem.W.findIn K (.ref C) "__init__" = some (some (.ref fI))) (tI : PySem.W.isFn K (.ref fI) = true)
    (F : Fun K "__init__" "InvalidBlocks.__init__" S_InvalidBlocks___init__ fI fd) : ErrC P w K mg base "InvalidBlocks" C "value" := by
  refine ⟨T, no, m, fI, fd, iC, beq_iff_eq.mp tI, ?_, ?_, ?_⟩
  · refine F.ok sc_InvalidBlocks___init__ (fun vs H Q E h => ?_) (fun cdv A outer s H vs Q E hr h => ?_)
    · obtain ⟨a, v, rfl, _⟩ := h; rfl
    · obtain ⟨a, v, rfl, ha, q⟩ := h
      exact ⟨_, pss_one (ps_ox (pv 0) (pv 1)), ⟨_, rfl, _, rfl, a, C, rfl, T, no, ha, fun dx h1 h2 => q dx h1 h2⟩⟩
  · obtain ⟨oc, od, kV, doc, pm, an, cdv, ct, osl, rfl, lk, hcd⟩ := F.ex
    exact fun s a u _ => .of_eq rfl
  · obtain ⟨oc, od, kV, doc, pm, an, cdv, ct, osl, rfl, lk, hcd⟩ := F.ex
    exact fun s a u _ => .of_eq rfl
theorem err_Uneven {C fI : Addr} {fd : FuncData} (T : OxC K C) (no : PySem.W.findIn K (.ref C) "name" = some none) (m : mg "Uneven" = some (.ref C)) (iC : PySem.W.findIn K (.ref C) "__init__" = some (some (.ref fI))) (tI : PySem.W.isFn K (.ref fI) = true)
    (F : Fun K "__init__" "Uneven.__init__" S_Uneven___init__ fI fd) : ErrC P w K mg base "Uneven" C "name" := by
  refine ⟨T, no, m, fI, fd, iC, beq_iff_eq.mp tI, ?_, ?_, ?_⟩
  · refine F.ok sc_Uneven___init__ (fun vs H Q E h => ?_) (fun cdv A outer s H vs Q E hr h => ?_)
    · obtain ⟨a, v, rfl, _⟩ := h; rfl
    · obtain ⟨a, v, rfl, ha, q⟩ := h
      exact ⟨_, pss_one (ps_ox (pv 0) (pv 1)), ⟨_, rfl, _, rfl, a, C, rfl, T, no, ha, fun dx h1 h2 => q dx h1 h2⟩⟩
  · obtain ⟨oc, od, kV, doc, pm, an, cdv, ct, osl, rfl, lk, hcd⟩ := F.ex
    exact fun s a u _ => .of_eq rfl
  · obtain ⟨oc, od, kV, doc, pm, an, cdv, ct, osl, rfl, lk, hcd⟩ := F.ex
    exact fun s a u _ => .of_eq rfl
theorem err_InvalidWeights {C fI : Addr} {fd : FuncData} (T : OxC K C) (no : PySem.W.findIn K (.ref C) "value" = some none) (m : mg "InvalidWeights" = some (.ref C)) (iC : PySem.W.findIn K (.ref C) "__init__" = some (some (.ref fI))) (tI : PySem.W.isFn K (.ref fI) = true)
    (F : Fun K "__init__" "InvalidWeights.__init__" S_InvalidWeights___init__ fI fd) : ErrC P w K mg base "InvalidWeights" C "value" := by
  refine ⟨T, no, m, fI, fd, iC, beq_iff_eq.mp tI, ?_, ?_, ?_⟩
  · refine F.ok sc_InvalidWeights___init__ (fun vs H Q E h => ?_) (fun cdv A outer s H vs Q E hr h => ?_)
    · obtain ⟨a, v, rfl, _⟩ := h; rfl
    · obtain ⟨a, v, rfl, ha, q⟩ := h
      exact ⟨_, pss_one (ps_ox (pv 0) (pv 1)), ⟨_, rfl, _, rfl, a, C, rfl, T, no, ha, fun dx h1 h2 => q dx h1 h2⟩⟩
  · obtain ⟨oc, od, kV, doc, pm, an, cdv, ct, osl, rfl, lk, hcd⟩ := F.ex
    exact fun s a u _ => .of_eq rfl
  · obtain ⟨oc, od, kV, doc, pm, an, cdv, ct, osl, rfl, lk, hcd⟩ := F.ex
    exact fun s a u _ => .of_eq rfl
theorem err_InvalidEvent {C fI : Addr} {fd : FuncData} (T : OxC K C) (no : PySem.W.findIn K (.ref C) "value" = some none) (m : mg "InvalidEvent" = some (.ref C)) (iC : PySem.W.findIn K (.ref C) "__init__" = some (some (.ref fI))) (tI : PySem.W.isFn K (.ref fI) = true)
    (F : Fun K "__init__" "InvalidEvent.__init__" S_InvalidEvent___init__ fI fd) : ErrC P w K mg base "InvalidEvent" C "value" := by
  refine ⟨T, no, m, fI, fd, iC, beq_iff_eq.mp tI, ?_, ?_, ?_⟩
  · refine F.ok sc_InvalidEvent___init__ (fun vs H Q E h => ?_) (fun cdv A outer s H vs Q E hr h => ?_)
    · obtain ⟨a, v, rfl, _⟩ := h; rfl
    · obtain ⟨a, v, rfl, ha, q⟩ := h
      exact ⟨_, pss_one (ps_ox (pv 0) (pv 1)), ⟨_, rfl, _, rfl, a, C, rfl, T, no, ha, fun dx h1 h2 => q dx h1 h2⟩⟩
  · obtain ⟨oc, od, kV, doc, pm, an, cdv, ct, osl, rfl, lk, hcd⟩ := F.ex
    exact fun s a u _ => .of_eq rfl
  · obtain ⟨oc, od, kV, doc, pm, an, cdv, ct, osl, rfl, lk, hcd⟩ := F.ex
    exact fun s a u _ => .of_eq rfl
theorem err_InvalidQuestion {C fI : Addr} {fd : FuncData} (T : OxC K C) (no : PySem.W.findIn K (.ref C) "position" = some none) (m : mg "InvalidQuestion" = some (.ref C)) (iC : PySem.W.findIn K (.ref C) "__init__" = some (some (.ref fI))) (tI : PySem.W.isFn K (.ref fI) = true)
    (F : Fun K "__init__" "InvalidQuestion.__init__" S_InvalidQuestion___init__ fI fd) : ErrC P w K mg base "InvalidQuestion" C "position" := by
  refine ⟨T, no, m, fI, fd, iC, beq_iff_eq.mp tI, ?_, ?_, ?_⟩
  · refine F.ok sc_InvalidQuestion___init__ (fun vs H Q E h => ?_) (fun cdv A outer s H vs Q E hr h => ?_)
    · obtain ⟨a, v, rfl, _⟩ := h; rfl
    · obtain ⟨a, v, rfl, ha, q⟩ := h
      exact ⟨_, pss_one (ps_ox (pv 0) (pv 1)), ⟨_, rfl, _, rfl, a, C, rfl, T, no, ha, fun dx h1 h2 => q dx h1 h2⟩⟩
  · obtain ⟨oc, od, kV, doc, pm, an, cdv, ct, osl, rfl, lk, hcd⟩ := F.ex
    exact fun s a u _ => .of_eq rfl
  · obtain ⟨oc, od, kV, doc, pm, an, cdv, ct, osl, rfl, lk, hcd⟩ := F.ex
    exact fun s a u _ => .of_eq rfl
theorem err_InvalidCommand {C fI : Addr} {fd : FuncData} (T : OxC K C) (no : PySem.W.findIn K (.ref C) "word" = some none) (m : mg "InvalidCommand" = some (.ref C)) (iC : PySem.W.findIn K (.ref C) "__init__" = some (some (.ref fI))) (tI : PySem.W.isFn K (.ref fI) = true)
    (F : Fun K "__init__" "InvalidCommand.__init__" S_InvalidCommand___init__ fI fd) : ErrC P w K mg base "InvalidCommand" C "word" := by
  refine ⟨T, no, m, fI, fd, iC, beq_iff_eq.mp tI, ?_, ?_, ?_⟩
  · refine F.ok sc_InvalidCommand___init__ (fun vs H Q E h => ?_) (fun cdv A outer s H vs Q E hr h => ?_)
    · obtain ⟨a, v, rfl, _⟩ := h; rfl
    · obtain ⟨a, v, rfl, ha, q⟩ := h
      exact ⟨_, pss_one (ps_ox (pv 0) (pv 1)), ⟨_, rfl, _, rfl, a, C, rfl, T, no, ha, fun dx h1 h2 => q dx h1 h2⟩⟩
  · obtain ⟨oc, od, kV, doc, pm, an, cdv, ct, osl, rfl, lk, hcd⟩ := F.ex
    exact fun s a u _ => .of_eq rfl
  · obtain ⟨oc, od, kV, doc, pm, an, cdv, ct, osl, rfl, lk, hcd⟩ := F.ex
    exact fun s a u _ => .of_eq rfl
theorem err_LimitExceeded {C fI : Addr} {fd : FuncData} (T : OxC K C) (no : PySem.W.findIn K (.ref C) "word" = some none) (m : mg "LimitExceeded" = some (.ref C)) (iC : PySem.W.findIn K (.ref C) "__init__" = some (some (.ref fI))) (tI : PySem.W.isFn K (.ref fI) = true)
    (F : Fun K "__init__" "LimitExceeded.__init__" S_LimitExceeded___init__ fI fd) : ErrC P w K mg base "LimitExceeded" C "word" := by
  refine ⟨T, no, m, fI, fd, iC, beq_iff_eq.mp tI, ?_, ?_, ?_⟩
  · refine F.ok sc_LimitExceeded___init__ (fun vs H Q E h => ?_) (fun cdv A outer s H vs Q E hr h => ?_)
    · obtain ⟨a, v, rfl, _⟩ := h; rfl
    · obtain ⟨a, v, rfl, ha, q⟩ := h
      exact ⟨_, pss_one (ps_ox (pv 0) (pv 1)), ⟨_, rfl, _, rfl, a, C, rfl, T, no, ha, fun dx h1 h2 => q dx h1 h2⟩⟩
  · obtain ⟨oc, od, kV, doc, pm, an, cdv, ct, osl, rfl, lk, hcd⟩ := F.ex
    exact fun s a u _ => .of_eq rfl
  · obtain ⟨oc, od, kV, doc, pm, an, cdv, ct, osl, rfl, lk, hcd⟩ := F.ex
    exact fun s a u _ => .of_eq rfl
end
structure Errs (P : Program) (w : World) (K : PySem.W.Frag) (mg : Str → Option Value) (base : Heap) (c : Nat → Addr) (far : Addr) : Prop where
  e0 : ErrC P w K mg base "InvalidText" (c 0) "value"
  e1 : ErrC P w K mg base "InvalidSyntax" (c 1) "position"
  e2 : ErrC P w K mg base "InvalidTree" (c 2) "value"
  e3 : ErrC P w K mg base "DuplicateName" (c 3) "name"
  e4 : ErrC P w K mg base "UnknownName" (c 4) "name"
  e5 : ErrC P w K mg base "TooLarge" (c 5) "word"
  e6 : ErrC P w K mg base "TooMany" (c 6) "word"
  e7 : ErrC P w K mg base "InvalidNumber" (c 7) "value"
  e8 : ErrC P w K mg base "InvalidCache" (c 8) "value"
  e9 : ErrC P w K mg base "OutOfRange" (c 9) "access"
  e10 : ErrC P w K mg base "InvalidOrder" (c 10) "value"
  e11 : ErrC P w K mg base "InvalidBlocks" (c 11) "value"
  e12 : ErrC P w K mg base "Uneven" (c 12) "name"
  e13 : ErrC P w K mg base "InvalidWeights" (c 13) "value"
  e14 : ErrC P w K mg base "InvalidEvent" (c 14) "value"
  e15 : ErrC P w K mg base "InvalidQuestion" (c 15) "position"
  e16 : ErrC P w K mg base "InvalidCommand" (c 16) "word"
  e17 : ErrC P w K mg base "LimitExceeded" (c 17) "word"
  mF : mg "FarError" = some (.ref far)
  is : ∀ i j : Nat, i < 18 → j < 17 → PySem.W.kitOne K (.ref (c i)) (.ref (c j)) = some (decide (i = j))
  isF : ∀ i : Nat, i < 17 → PySem.W.kitOne K (.ref (c i)) (.ref far) = some true
  isV : ∀ i : Nat, i < 17 → PySem.W.kitOne K (.ref (c i)) (.type "ValueError") = some true
  isR : ∀ i : Nat, i < 17 → PySem.W.kitOne K (.ref (c i)) (.type "RuntimeError") = some false
  lV : PySem.W.kitOne K (.ref (c 17)) (.type "ValueError") = some false
  lR : PySem.W.kitOne K (.ref (c 17)) (.type "RuntimeError") = some true
end K13

namespace K13
open PySem L2 VR VX StX RT
/-! ### displays of exceptions -/
/-- each of xs is an exception whose field f holds v -/
def Exs (K : PySem.W.Frag) (H : Hp) (xs : List V) (f : Str) (v : V) : Prop := ∀ x ∈ xs, ∃ C, ExAt H x C f v ∧ OxC K C ∧ PySem.W.findIn K (.ref C) f = some none
theorem Exs.same {K : PySem.W.Frag} {H H' : Hp} {xs : List V} {f : Str} {v : V} (h : Exs K H xs f v) (s : Same H H') : Exs K H' xs f v := fun x hx => let ⟨C, e, t⟩ := h x hx; ⟨C, e.same s, t⟩
theorem Exs.app {K : PySem.W.Frag} {H : Hp} {xs ys : List V} {f : Str} {v : V} (h : Exs K H xs f v) (g : Exs K H ys f v) : Exs K H (xs ++ ys) f v := fun x hx => (List.mem_append.mp hx).elim (h x) (g x)
/-- an expression that gives v and leaves the heap -/
def Imm (te : TE) (σ : L2.St) (v : V) : Prop := ∀ (H : Hp) (Q : VK), Q v H → te σ H Q
def Rd (K : PySem.W.Frag) (t : TA) (σ : L2.St) (n : Nat) (f : Str) (v : V) : Prop := ∀ (H : Hp) (Q : List V → Hp → Prop), (∀ xs H', Same H H' → xs.length = n → Exs K H' xs f v → Q xs H') → t σ H Q
theorem Rd.nil {K : PySem.W.Frag} {σ : L2.St} {f : Str} {v : V} : Rd K tNil σ 0 f v := fun H Q h => h [] H (Same.refl _) rfl (fun x hx => nomatch hx)
theorem Rd.cons {K : PySem.W.Frag} {σ : L2.St} {f : Str} {v : V} {C : Addr} {te : TE} {t : TA} {n : Nat} (T : OxC K C) (no : PySem.W.findIn K (.ref C) f = some none) (h : Rd K t σ n f v) (i : Imm te σ v) : Rd K (tCons (tOxV C f te) t) σ (n + 1) f v :=
  fun H Q q => i _ _ fun x H2 s2 e2 => h H2 _ fun xs H3 s3 l3 e3 => q (x :: xs) H3 (s2.trans s3) (congrArg Nat.succ l3) fun y hy => (List.mem_cons.mp hy).elim (fun z => ⟨C, by rw [z]; exact e2.same s3, T, no⟩) (e3 y)
/-- the same, each of its own class and field -/
def Exl (H : Hp) (xs : List V) (L : List (Addr × Str)) (v : V) : Prop := Paired (fun x p => ExAt H x p.1 p.2 v) xs L
def Rl (t : TA) (σ : L2.St) (L : List (Addr × Str)) (v : V) : Prop := ∀ (H : Hp) (Q : List V → Hp → Prop), (∀ xs H', Same H H' → Exl H' xs L v → Q xs H') → t σ H Q
theorem Rl.nil {σ : L2.St} {v : V} : Rl tNil σ [] v := fun H Q h => h [] H (Same.refl _) .nil
theorem Rl.cons {σ : L2.St} {f : Str} {v : V} {C : Addr} {te : TE} {t : TA} {L : List (Addr × Str)} (h : Rl t σ L v) (i : Imm te σ v) : Rl (tCons (tOxV C f te) t) σ ((C, f) :: L) v :=
  fun H Q q => i _ _ fun x H2 s2 e2 => h H2 _ fun xs H3 s3 e3 => q (x :: xs) H3 (s2.trans s3) (.cons (e2.same s3) e3)
theorem imm_var {σ : L2.St} {i : Nat} {v : V} (h : σ[i]? = some (some v)) : Imm (tVar i) σ v := fun _ _ q => ⟨v, h, q⟩
theorem imm_c {σ : L2.St} {v : V} : Imm (tC v) σ v := fun _ _ q => q
/-- the fields of a list of such: a comprehension's walk -/
theorem lc_fields {K : PySem.W.Frag} {σ : L2.St} {a : Addr} {xs : List V} {f : Str} {v : V} {te : TE} {vs : List Nat} {g : TG} {H : Hp} {Q : Addr → Hp → Prop} (hl : xs.length ≤ 1000) (ha : H a = some (.lst xs)) (hx : Exs K H xs f v)
    (hg : ∀ (x : V) (H' : Hp) (N : L2.St → Hp → Prop), (∀ σ2, wipe σ2 vs = wipe σ vs → Imm te σ2 x → N σ2 H') → g x (wipe σ vs) H' N)
    (h : ∀ (r : Addr) (H' : Hp), Same H H' → H' r = some (.lst (List.replicate xs.length v)) → Q r H') :
    ∀ D, H D = none → ∃ W : Nat → Nat → Hp → Prop, (∃ m, W 0 m (upd H D (.lst []))) ∧ ∀ i m H1, W i m H1 →
      ((Itl K a).stop i H1 ∧ Q D H1) ∨ ((Itl K a).go i H1 ∧ ∃ Nx : Hp → Prop, (∀ H', Nx H' → ∃ m', m' < m ∧ W (i + 1) m' H') ∧ ∀ x H', (Itl K a).yld i H1 x H' → g x (wipe σ vs) H' fun σ2 H2 => wipe σ2 vs = wipe σ vs ∧ tYes σ2 H2 fun b H3 =>
        if b = true then (tOxF K f te) σ2 H3 fun y H4 => ∃ acc, H4 D = some (.lst acc) ∧ acc.length < sizeLine ∧ Nx (upd H4 D (.lst (acc ++ [y]))) else Nx H3) := by
  intro D hD
  refine lc_it (Qd := fun H1 => Q D H1) (walk_list (xs := xs)) (fun i H' => H' D = some (.lst (List.replicate i v)) ∧ Same H H') ⟨upd_same, Same.new hD⟩ (fun i H' _ ⟨_, s1⟩ => .of (s1 _ _ ha)) ?_ ?_
  · rintro i x H1 H2 hi ⟨hd, s1⟩ ⟨rfl, hv⟩
    refine hg x H2 _ fun σ2 hw im => ⟨hw, ?_⟩
    obtain ⟨C, e, T, no⟩ := hx x (List.mem_of_getElem? hv)
    refine im _ _ ⟨C, v, e.same s1, T, no, _, hd, by rw [List.length_replicate]; exact small1000 (by omega), ?_, s1.upd0 hD⟩
    rw [upd_same, List.replicate_succ']
  · rintro H1 ⟨hd, s1⟩
    exact h D H1 s1 hd
theorem Exs.nil {K : PySem.W.Frag} {H : Hp} {f : Str} {v : V} : Exs K H [] f v := fun x hx => nomatch hx
theorem Exs.cons {K : PySem.W.Frag} {H : Hp} {x : V} {xs : List V} {C : Addr} {f : Str} {v : V} (e : ExAt H x C f v) (T : OxC K C) (no : PySem.W.findIn K (.ref C) f = some none) (h : Exs K H xs f v) : Exs K H (x :: xs) f v := fun y hy => (List.mem_cons.mp hy).elim (fun z => ⟨C, by rw [z]; exact e, T, no⟩) (h y)
theorem lenS {n : Nat} (h : n ≤ 100) : n ≤ sizeLine := smallL (by omega)
def spVal : Sp := fun vs H Q _ => ∃ v, vs = [v] ∧ ∀ (r : Addr) (H' : Hp), Same H H' → H' r = some (.lst (List.replicate 16 v)) → Q (.ref r) H'
def spWord : Sp := fun vs H Q _ => ∃ v, vs = [v] ∧ ∀ (r : Addr) (H' : Hp), Same H H' → H' r = some (.lst (List.replicate 14 v)) → Q (.ref r) H'
section
variable {P : Program} {w : World} {K : PySem.W.Frag} {mg : Str → Option Value} {base : Heap} {c : Nat → Addr} {far : Addr}
theorem ok_by_value {f : Addr} {fd : FuncData} (F : Fun K "_law_by_value" "_law_by_value" S_law_by_value f fd) (G : Errs P w K mg base c far) : FnOk P w K mg base CX0 3 f fd ["_law_thing"] spVal := by
  refine F.ok sc_law_by_value (fun vs H Q E h => ?_) (fun cdv A outer s H vs Q E hr h => ?_)
  · obtain ⟨v, rfl, _⟩ := h; rfl
  · obtain ⟨v, rfl, q⟩ := h
    refine ⟨_, pss_cons (ps_set (i := 1) sc_law_by_value.nd rfl (Or.inl rfl) (pe_lst (pa_cons (pe_p G.e0 hr (pv 0)) (pa_cons (pe_p G.e2 hr (pv 0)) (pa_cons (pe_p G.e7 hr (pv 0)) (pa_cons (pe_p G.e8 hr (pv 0)) (pa_cons (pe_p G.e10 hr (pv 0)) pa_nil)))))))
      (pss_cons (ps_set (i := 1) sc_law_by_value.nd rfl (Or.inl rfl) (pe_op op_cat (pv 1) (pe_lst (pa_cons (pe_p G.e11 hr (pv 0)) (pa_cons (pe_p G.e13 hr (pv 0)) (pa_cons (pe_p G.e14 hr (pv 0)) (pa_cons (pe_k G.e0 hr (pv 0)) pa_nil)))))))
      (pss_cons (ps_set (i := 1) sc_law_by_value.nd rfl (Or.inl rfl) (pe_op op_cat (pv 1) (pe_lst (pa_cons (pe_k G.e2 hr (pv 0)) (pa_cons (pe_k G.e7 hr (pv 0)) (pa_cons (pe_k G.e8 hr (pv 0)) pa_nil))))))
      (pss_cons (ps_set (i := 1) sc_law_by_value.nd rfl (Or.inl rfl) (pe_op op_cat (pv 1) (pe_lst (pa_cons (pe_k G.e10 hr (pv 0)) (pa_cons (pe_k G.e11 hr (pv 0)) (pa_cons (pe_k G.e13 hr (pv 0)) pa_nil))))))
      (pss_one (ps_ret (pe_lc (own := [("_law_error", 2)]) (g := gName 2) (by rfl) sc_law_by_value.nd (pi_list (pe_op op_cat (pv 1) (pe_lst (pa_cons (pe_k G.e14 hr (pv 0)) pa_nil)))) (blkOk_by (own := [("_law_error", 2)]) (N := ["_law_thing", "_law_found", "_law_error"]) (sc := defScope S_law_by_value) (by decide +kernel)) (fun _ _ _ _ _ => pg_name (i := 2) sc_law_by_value.nd rfl (Or.inl rfl)) (fun _ _ _ _ _ => pts_nil) (fun _ _ _ _ _ => (show PE _ _ (tOxF K "value" (tVar 2)) from pe_oxf (pv 2))))))))), ?_⟩
    refine ⟨v, rfl, fun a1 aH1 am1 ag1 => ⟨v, rfl, fun a2 aH2 am2 ag2 => ⟨v, rfl, fun a3 aH3 am3 ag3 => ⟨v, rfl, fun a4 aH4 am4 ag4 => ⟨v, rfl, fun a5 aH5 am5 ag5 => ⟨lenS (by simp), fun p1 hp1 => ?_⟩⟩⟩⟩⟩⟩
    have z1 : Exs K _ [a1, a2, a3, a4, a5] "value" v := (Exs.cons (ag1.same (am2.trans (am3.trans (am4.trans am5)))) G.e0.T G.e0.no (Exs.cons (ag2.same (am3.trans (am4.trans am5))) G.e2.T G.e2.no (Exs.cons (ag3.same (am4.trans am5)) G.e7.T G.e7.no (Exs.cons (ag4.same am5) G.e8.T G.e8.no (Exs.cons ag5 G.e10.T G.e10.no Exs.nil)))))
    have s1 := (am1.trans (am2.trans (am3.trans (am4.trans am5)))).trans (Same.new (o := .lst [a1, a2, a3, a4, a5]) hp1)
    have z1 := z1.same (Same.new (o := .lst [a1, a2, a3, a4, a5]) hp1)
    refine ⟨_, rfl, ⟨v, rfl, fun b1 bH1 bm1 bg1 => ⟨v, rfl, fun b2 bH2 bm2 bg2 => ⟨v, rfl, fun b3 bH3 bm3 bg3 => ⟨v, rfl, fun b4 bH4 bm4 bg4 => ⟨lenS (by simp), fun q2 hq2 => ⟨p1, q2, [a1, a2, a3, a4, a5], [b1, b2, b3, b4], rfl, rfl, Same.new hq2 _ _ ((bm1.trans (bm2.trans (bm3.trans bm4))) _ _ upd_same), upd_same, lenS (by simp), fun p2 hp2 => ?_⟩⟩⟩⟩⟩⟩⟩
    have y2 : Exs K _ [b1, b2, b3, b4] "value" v := (Exs.cons (bg1.same (bm2.trans (bm3.trans bm4))) G.e11.T G.e11.no (Exs.cons (bg2.same (bm3.trans bm4)) G.e13.T G.e13.no (Exs.cons (bg3.same bm4) G.e14.T G.e14.no (Exs.cons bg4 G.e0.T G.e0.no Exs.nil))))
    have t2 := (Same.new (o := .lst [b1, b2, b3, b4]) hq2).trans (Same.new (o := .lst ([a1, a2, a3, a4, a5] ++ [b1, b2, b3, b4])) hp2)
    have z2 := ((z1.same (bm1.trans (bm2.trans (bm3.trans bm4)))).app y2).same t2
    have s2 := (s1.trans (bm1.trans (bm2.trans (bm3.trans bm4)))).trans t2
    refine ⟨_, rfl, ⟨v, rfl, fun c1 cH1 cm1 cg1 => ⟨v, rfl, fun c2 cH2 cm2 cg2 => ⟨v, rfl, fun c3 cH3 cm3 cg3 => ⟨lenS (by simp), fun q3 hq3 => ⟨p2, q3, [a1, a2, a3, a4, a5] ++ [b1, b2, b3, b4], [c1, c2, c3], rfl, rfl, Same.new hq3 _ _ ((cm1.trans (cm2.trans cm3)) _ _ upd_same), upd_same, lenS (by simp), fun p3 hp3 => ?_⟩⟩⟩⟩⟩⟩
    have y3 : Exs K _ [c1, c2, c3] "value" v := (Exs.cons (cg1.same (cm2.trans cm3)) G.e2.T G.e2.no (Exs.cons (cg2.same cm3) G.e7.T G.e7.no (Exs.cons cg3 G.e8.T G.e8.no Exs.nil)))
    have t3 := (Same.new (o := .lst [c1, c2, c3]) hq3).trans (Same.new (o := .lst ([a1, a2, a3, a4, a5] ++ [b1, b2, b3, b4] ++ [c1, c2, c3])) hp3)
    have z3 := ((z2.same (cm1.trans (cm2.trans cm3))).app y3).same t3
    have s3 := (s2.trans (cm1.trans (cm2.trans cm3))).trans t3
    refine ⟨_, rfl, ⟨v, rfl, fun d1 dH1 dm1 dg1 => ⟨v, rfl, fun d2 dH2 dm2 dg2 => ⟨v, rfl, fun d3 dH3 dm3 dg3 => ⟨lenS (by simp), fun q4 hq4 => ⟨p3, q4, [a1, a2, a3, a4, a5] ++ [b1, b2, b3, b4] ++ [c1, c2, c3], [d1, d2, d3], rfl, rfl, Same.new hq4 _ _ ((dm1.trans (dm2.trans dm3)) _ _ upd_same), upd_same, lenS (by simp), fun p4 hp4 => ?_⟩⟩⟩⟩⟩⟩
    have y4 : Exs K _ [d1, d2, d3] "value" v := (Exs.cons (dg1.same (dm2.trans dm3)) G.e10.T G.e10.no (Exs.cons (dg2.same dm3) G.e11.T G.e11.no (Exs.cons dg3 G.e13.T G.e13.no Exs.nil)))
    have t4 := (Same.new (o := .lst [d1, d2, d3]) hq4).trans (Same.new (o := .lst ([a1, a2, a3, a4, a5] ++ [b1, b2, b3, b4] ++ [c1, c2, c3] ++ [d1, d2, d3])) hp4)
    have z4 := ((z3.same (dm1.trans (dm2.trans dm3))).app y4).same t4
    have s4 := (s3.trans (dm1.trans (dm2.trans dm3))).trans t4
    refine ⟨_, rfl, ⟨v, rfl, fun e1 eH1 em1 eg1 => ⟨lenS (by simp), fun q5 hq5 => ⟨p4, q5, [a1, a2, a3, a4, a5] ++ [b1, b2, b3, b4] ++ [c1, c2, c3] ++ [d1, d2, d3], [e1], rfl, rfl, Same.new hq5 _ _ (em1 _ _ upd_same), upd_same, lenS (by simp), fun p5 hp5 => ?_⟩⟩⟩⟩
    have y5 : Exs K _ [e1] "value" v := (Exs.cons eg1 G.e14.T G.e14.no Exs.nil)
    have t5 := (Same.new (o := .lst [e1]) hq5).trans (Same.new (o := .lst ([a1, a2, a3, a4, a5] ++ [b1, b2, b3, b4] ++ [c1, c2, c3] ++ [d1, d2, d3] ++ [e1])) hp5)
    have z5 := ((z4.same em1).app y5).same t5
    have s5 := (s4.trans em1).trans t5
    refine ⟨p5, rfl, ⟨_, .of upd_same⟩, lc_fields (xs := [a1, a2, a3, a4, a5] ++ [b1, b2, b3, b4] ++ [c1, c2, c3] ++ [d1, d2, d3] ++ [e1]) (by simp) upd_same z5 ?_ ?_⟩
    · intro x H' N k
      exact k _ rfl (imm_var rfl)
    · intro r H' s6 hr'
      exact q r H' (s5.trans s6) hr'
end
end K13

namespace K13
open PySem L2 VR VX StX RT
section
variable {P : Program} {w : World} {K : PySem.W.Frag} {mg : Str → Option Value} {base : Heap} {c : Nat → Addr} {far : Addr}
theorem ok_by_word {f : Addr} {fd : FuncData} (F : Fun K "_law_by_word" "_law_by_word" S_law_by_word f fd) (G : Errs P w K mg base c far) : FnOk P w K mg base CX0 3 f fd ["_law_thing"] spWord := by
  refine F.ok sc_law_by_word (fun vs H Q E h => ?_) (fun cdv A outer s H vs Q E hr h => ?_)
  · obtain ⟨v, rfl, _⟩ := h; rfl
  · obtain ⟨v, rfl, q⟩ := h
    refine ⟨_, pss_cons (ps_set (i := 1) sc_law_by_word.nd rfl (Or.inl rfl) (pe_lst (pa_cons (pe_p G.e3 hr (pv 0)) (pa_cons (pe_p G.e4 hr (pv 0)) (pa_cons (pe_p G.e12 hr (pv 0)) (pa_cons (pe_k G.e3 hr (pv 0)) pa_nil))))))
      (pss_cons (ps_set (i := 2) sc_law_by_word.nd rfl (Or.inl rfl) (pe_lst (pa_cons (pe_p G.e5 hr (pv 0)) (pa_cons (pe_p G.e6 hr (pv 0)) (pa_cons (pe_p G.e16 hr (pv 0)) (pa_cons (pe_p G.e17 hr (pv 0)) (pa_cons (pe_k G.e6 hr (pv 0)) pa_nil)))))))
      (pss_cons (ps_set (i := 3) sc_law_by_word.nd rfl (Or.inl rfl) (pe_lst (pa_cons (pe_p G.e1 hr (pv 0)) (pa_cons (pe_p G.e15 hr (pv 0)) (pa_cons (pe_k G.e1 hr (pv 0)) pa_nil)))))
      (pss_cons (ps_set (i := 4) sc_law_by_word.nd rfl (Or.inl rfl) (pe_op op_cat (pe_op op_cat (pe_lc (own := [("_law_error", 5)]) (g := gName 5) (by rfl) sc_law_by_word.nd (pi_list (pv 1)) (blkOk_by (own := [("_law_error", 5)]) (N := ["_law_thing", "_law_names", "_law_words", "_law_spots", "_law_told", "_law_error"]) (sc := defScope S_law_by_word) (by decide +kernel)) (fun _ _ _ _ _ => pg_name (i := 5) sc_law_by_word.nd rfl (Or.inl rfl)) (fun _ _ _ _ _ => pts_nil) (fun _ _ _ _ _ => (show PE _ _ (tOxF K "name" (tVar 5)) from pe_oxf (pv 5))))
        (pe_lc (own := [("_law_error", 5)]) (g := gName 5) (by rfl) sc_law_by_word.nd (pi_list (pv 2)) (blkOk_by (own := [("_law_error", 5)]) (N := ["_law_thing", "_law_names", "_law_words", "_law_spots", "_law_told", "_law_error"]) (sc := defScope S_law_by_word) (by decide +kernel)) (fun _ _ _ _ _ => pg_name (i := 5) sc_law_by_word.nd rfl (Or.inl rfl)) (fun _ _ _ _ _ => pts_nil) (fun _ _ _ _ _ => (show PE _ _ (tOxF K "word" (tVar 5)) from pe_oxf (pv 5)))))
        (pe_lc (own := [("_law_error", 5)]) (g := gName 5) (by rfl) sc_law_by_word.nd (pi_list (pv 3)) (blkOk_by (own := [("_law_error", 5)]) (N := ["_law_thing", "_law_names", "_law_words", "_law_spots", "_law_told", "_law_error"]) (sc := defScope S_law_by_word) (by decide +kernel)) (fun _ _ _ _ _ => pg_name (i := 5) sc_law_by_word.nd rfl (Or.inl rfl)) (fun _ _ _ _ _ => pts_nil) (fun _ _ _ _ _ => (show PE _ _ (tOxF K "position" (tVar 5)) from pe_oxf (pv 5))))))
      (pss_one (ps_ret (pe_op op_cat (pv 4) (pe_lst (pa_cons (pe_oxf (pe_p G.e9 hr (pv 0))) (pa_cons (pe_oxf (pe_k G.e9 hr (pv 0))) pa_nil))))))))), ?_⟩
    refine ⟨v, rfl, fun a1 aH1 am1 ag1 => ⟨v, rfl, fun a2 aH2 am2 ag2 => ⟨v, rfl, fun a3 aH3 am3 ag3 => ⟨v, rfl, fun a4 aH4 am4 ag4 => ⟨lenS (by simp), fun p1 hp1 => ?_⟩⟩⟩⟩⟩
    have y1 : Exs K _ [a1, a2, a3, a4] "name" v := ((Exs.cons (ag1.same (am2.trans (am3.trans am4))) G.e3.T G.e3.no (Exs.cons (ag2.same (am3.trans am4)) G.e4.T G.e4.no (Exs.cons (ag3.same am4) G.e12.T G.e12.no (Exs.cons ag4 G.e3.T G.e3.no Exs.nil))))).same (Same.new (o := .lst [a1, a2, a3, a4]) hp1)
    have t1 := (am1.trans (am2.trans (am3.trans am4))).trans (Same.new (o := .lst [a1, a2, a3, a4]) hp1)
    refine ⟨v, rfl, fun b1 bH1 bm1 bg1 => ⟨v, rfl, fun b2 bH2 bm2 bg2 => ⟨v, rfl, fun b3 bH3 bm3 bg3 => ⟨v, rfl, fun b4 bH4 bm4 bg4 => ⟨v, rfl, fun b5 bH5 bm5 bg5 => ⟨lenS (by simp), fun p2 hp2 => ?_⟩⟩⟩⟩⟩⟩
    have y2 : Exs K _ [b1, b2, b3, b4, b5] "word" v := ((Exs.cons (bg1.same (bm2.trans (bm3.trans (bm4.trans bm5)))) G.e5.T G.e5.no (Exs.cons (bg2.same (bm3.trans (bm4.trans bm5))) G.e6.T G.e6.no (Exs.cons (bg3.same (bm4.trans bm5)) G.e16.T G.e16.no (Exs.cons (bg4.same bm5) G.e17.T G.e17.no (Exs.cons bg5 G.e6.T G.e6.no Exs.nil)))))).same (Same.new (o := .lst [b1, b2, b3, b4, b5]) hp2)
    have t2 := (bm1.trans (bm2.trans (bm3.trans (bm4.trans bm5)))).trans (Same.new (o := .lst [b1, b2, b3, b4, b5]) hp2)
    refine ⟨v, rfl, fun d1 dH1 dm1 dg1 => ⟨v, rfl, fun d2 dH2 dm2 dg2 => ⟨v, rfl, fun d3 dH3 dm3 dg3 => ⟨lenS (by simp), fun p3 hp3 => ?_⟩⟩⟩⟩
    have y3 : Exs K _ [d1, d2, d3] "position" v := ((Exs.cons (dg1.same (dm2.trans dm3)) G.e1.T G.e1.no (Exs.cons (dg2.same dm3) G.e15.T G.e15.no (Exs.cons dg3 G.e1.T G.e1.no Exs.nil)))).same (Same.new (o := .lst [d1, d2, d3]) hp3)
    have t3 := (dm1.trans (dm2.trans dm3)).trans (Same.new (o := .lst [d1, d2, d3]) hp3)
    refine ⟨_, rfl, p1, rfl, ⟨_, .of (t3 _ _ (t2 _ _ upd_same))⟩, lc_fields (xs := [a1, a2, a3, a4]) (by simp) (t3 _ _ (t2 _ _ upd_same)) ((y1.same t2).same t3) (fun x H' N k => k _ rfl (imm_var rfl)) fun r1 J1 u1 g1 => ?_⟩
    refine ⟨_, rfl, p2, rfl, ⟨_, .of (u1 _ _ (t3 _ _ upd_same))⟩, lc_fields (xs := [b1, b2, b3, b4, b5]) (by simp) (u1 _ _ (t3 _ _ upd_same)) ((y2.same t3).same u1) (fun x H' N k => k _ rfl (imm_var rfl)) fun r2 J2 u2 g2 => ?_⟩
    refine ⟨r1, r2, _, _, rfl, rfl, u2 _ _ g1, g2, lenS (by simp), fun m1 hm1 => ?_⟩
    have v1 := Same.new (o := .lst (List.replicate ([a1, a2, a3, a4]).length v ++ List.replicate ([b1, b2, b3, b4, b5]).length v)) hm1
    refine ⟨_, rfl, p3, rfl, ⟨_, .of (v1 _ _ (u2 _ _ (u1 _ _ upd_same)))⟩, lc_fields (xs := [d1, d2, d3]) (by simp) (v1 _ _ (u2 _ _ (u1 _ _ upd_same))) (((y3.same u1).same u2).same v1) (fun x H' N k => k _ rfl (imm_var rfl)) fun r3 J3 u3 g3 => ?_⟩
    refine ⟨m1, r3, _, _, rfl, rfl, u3 _ _ upd_same, g3, lenS (by simp), fun m2 hm2 => ?_⟩
    refine ⟨_, rfl, ⟨v, rfl, fun x1 K1 w1 h1 => ⟨c 9, v, h1, G.e9.T, G.e9.no, ⟨v, rfl, fun x2 K2 w2 h2 => ⟨c 9, v, h2, G.e9.T, G.e9.no, ⟨lenS (by simp), fun q1 hq1 => ⟨m2, q1, _, [v, v], rfl, rfl, Same.new hq1 _ _ (w2 _ _ (w1 _ _ upd_same)), upd_same, lenS (by simp), fun r hr' => ?_⟩⟩⟩⟩⟩⟩⟩
    refine q r _ ?_ upd_same
    exact ((t1.trans (t2.trans t3)).trans (u1.trans (u2.trans (v1.trans u3)))).trans ((Same.new hm2).trans (w1.trans (w2.trans ((Same.new hq1).trans (Same.new hr')))))
def spAll (c : Nat → Addr) : Sp := fun vs H Q _ => vs = [] ∧ ∀ (r : Addr) (H' : Hp) (xs : List V), Same H H' → H' r = some (.lst xs) → xs.length = 17 → (∀ (i : Nat) (x : V), xs[i]? = some x → ∃ f v, ExAt H' x (c i) f v) → Q (.ref r) H'
theorem ok_all {f : Addr} {fd : FuncData} (F : Fun K "_law_all" "_law_all" S_law_all f fd) (G : Errs P w K mg base c far) : FnOk P w K mg base CX0 3 f fd [] (spAll c) := by
  refine F.ok sc_law_all (fun vs H Q E h => ?_) (fun cdv A outer s H vs Q E hr h => ?_)
  · obtain ⟨rfl, _⟩ := h; rfl
  · obtain ⟨rfl, q⟩ := h
    refine ⟨_, pss_one (ps_ret (pe_lst (pa_cons (pe_p G.e0 hr pe_int) (pa_cons (pe_p G.e1 hr pe_int) (pa_cons (pe_p G.e2 hr pe_int) (pa_cons (pe_p G.e3 hr pe_int) (pa_cons (pe_p G.e4 hr pe_int) (pa_cons (pe_p G.e5 hr pe_int) (pa_cons (pe_p G.e6 hr pe_int) (pa_cons (pe_p G.e7 hr pe_int) (pa_cons (pe_p G.e8 hr pe_int) (pa_cons (pe_p G.e9 hr pe_int) (pa_cons (pe_p G.e10 hr pe_int) (pa_cons (pe_p G.e11 hr pe_int) (pa_cons (pe_p G.e12 hr pe_int) (pa_cons (pe_p G.e13 hr pe_int) (pa_cons (pe_p G.e14 hr pe_int) (pa_cons (pe_p G.e15 hr pe_int) (pa_cons (pe_p G.e16 hr pe_int) pa_nil))))))))))))))))))), ?_⟩
    refine fun a0 A0 m0 g0 => fun a1 A1 m1 g1 => fun a2 A2 m2 g2 => fun a3 A3 m3 g3 => fun a4 A4 m4 g4 => fun a5 A5 m5 g5 => fun a6 A6 m6 g6 => fun a7 A7 m7 g7 => fun a8 A8 m8 g8 => fun a9 A9 m9 g9 => fun a10 A10 m10 g10 => fun a11 A11 m11 g11 => fun a12 A12 m12 g12 => fun a13 A13 m13 g13 => fun a14 A14 m14 g14 => fun a15 A15 m15 g15 => fun a16 A16 m16 g16 => ⟨lenS (by simp), fun p hp => ?_⟩
    have n := Same.new (o := .lst [a0, a1, a2, a3, a4, a5, a6, a7, a8, a9, a10, a11, a12, a13, a14, a15, a16]) hp
    refine q p _ [a0, a1, a2, a3, a4, a5, a6, a7, a8, a9, a10, a11, a12, a13, a14, a15, a16] ((m0.trans (m1.trans (m2.trans (m3.trans (m4.trans (m5.trans (m6.trans (m7.trans (m8.trans (m9.trans (m10.trans (m11.trans (m12.trans (m13.trans (m14.trans (m15.trans m16)))))))))))))))).trans n) upd_same rfl ?_
    intro i x hx
    match i, hx with
    | 0, hx => cases hx; exact ⟨_, _, g0.same (m1.trans (m2.trans (m3.trans (m4.trans (m5.trans (m6.trans (m7.trans (m8.trans (m9.trans (m10.trans (m11.trans (m12.trans (m13.trans (m14.trans (m15.trans (m16.trans n))))))))))))))))⟩
    | 1, hx => cases hx; exact ⟨_, _, g1.same (m2.trans (m3.trans (m4.trans (m5.trans (m6.trans (m7.trans (m8.trans (m9.trans (m10.trans (m11.trans (m12.trans (m13.trans (m14.trans (m15.trans (m16.trans n)))))))))))))))⟩
    | 2, hx => cases hx; exact ⟨_, _, g2.same (m3.trans (m4.trans (m5.trans (m6.trans (m7.trans (m8.trans (m9.trans (m10.trans (m11.trans (m12.trans (m13.trans (m14.trans (m15.trans (m16.trans n))))))))))))))⟩
    | 3, hx => cases hx; exact ⟨_, _, g3.same (m4.trans (m5.trans (m6.trans (m7.trans (m8.trans (m9.trans (m10.trans (m11.trans (m12.trans (m13.trans (m14.trans (m15.trans (m16.trans n)))))))))))))⟩
    | 4, hx => cases hx; exact ⟨_, _, g4.same (m5.trans (m6.trans (m7.trans (m8.trans (m9.trans (m10.trans (m11.trans (m12.trans (m13.trans (m14.trans (m15.trans (m16.trans n))))))))))))⟩
    | 5, hx => cases hx; exact ⟨_, _, g5.same (m6.trans (m7.trans (m8.trans (m9.trans (m10.trans (m11.trans (m12.trans (m13.trans (m14.trans (m15.trans (m16.trans n)))))))))))⟩
    | 6, hx => cases hx; exact ⟨_, _, g6.same (m7.trans (m8.trans (m9.trans (m10.trans (m11.trans (m12.trans (m13.trans (m14.trans (m15.trans (m16.trans n))))))))))⟩
    | 7, hx => cases hx; exact ⟨_, _, g7.same (m8.trans (m9.trans (m10.trans (m11.trans (m12.trans (m13.trans (m14.trans (m15.trans (m16.trans n)))))))))⟩
    | 8, hx => cases hx; exact ⟨_, _, g8.same (m9.trans (m10.trans (m11.trans (m12.trans (m13.trans (m14.trans (m15.trans (m16.trans n))))))))⟩
    | 9, hx => cases hx; exact ⟨_, _, g9.same (m10.trans (m11.trans (m12.trans (m13.trans (m14.trans (m15.trans (m16.trans n)))))))⟩
    | 10, hx => cases hx; exact ⟨_, _, g10.same (m11.trans (m12.trans (m13.trans (m14.trans (m15.trans (m16.trans n))))))⟩
    | 11, hx => cases hx; exact ⟨_, _, g11.same (m12.trans (m13.trans (m14.trans (m15.trans (m16.trans n)))))⟩
    | 12, hx => cases hx; exact ⟨_, _, g12.same (m13.trans (m14.trans (m15.trans (m16.trans n))))⟩
    | 13, hx => cases hx; exact ⟨_, _, g13.same (m14.trans (m15.trans (m16.trans n)))⟩
    | 14, hx => cases hx; exact ⟨_, _, g14.same (m15.trans (m16.trans n))⟩
    | 15, hx => cases hx; exact ⟨_, _, g15.same (m16.trans n)⟩
    | 16, hx => cases hx; exact ⟨_, _, g16.same n⟩
    | i + 17, hx => exact nomatch hx
theorem Errs.T (G : Errs P w K mg base c far) (i : Nat) (h : i < 18) : OxC K (c i) := by
  match i, h with
  | 0, _ => exact G.e0.T
  | 1, _ => exact G.e1.T
  | 2, _ => exact G.e2.T
  | 3, _ => exact G.e3.T
  | 4, _ => exact G.e4.T
  | 5, _ => exact G.e5.T
  | 6, _ => exact G.e6.T
  | 7, _ => exact G.e7.T
  | 8, _ => exact G.e8.T
  | 9, _ => exact G.e9.T
  | 10, _ => exact G.e10.T
  | 11, _ => exact G.e11.T
  | 12, _ => exact G.e12.T
  | 13, _ => exact G.e13.T
  | 14, _ => exact G.e14.T
  | 15, _ => exact G.e15.T
  | 16, _ => exact G.e16.T
  | 17, _ => exact G.e17.T
  | i + 18, h => exact absurd h (by omega)
def bits (i : Nat) : List V := (List.range 17).map fun j => .bl (decide (i = j))
def spKinds (c : Nat → Addr) : Sp := fun vs H Q _ => ∃ x i f v, vs = [x] ∧ i < 18 ∧ ExAt H x (c i) f v ∧ ∀ (r : Addr) (H' : Hp), Same H H' → H' r = some (.lst (bits i)) → Q (.ref r) H'
theorem ok_kinds {f : Addr} {fd : FuncData} (F : Fun K "_law_kinds" "_law_kinds" S_law_kinds f fd) (G : Errs P w K mg base c far) (hI : mg "isinstance" = none) : FnOk P w K mg base CX0 1 f fd ["_law_error"] (spKinds c) := by
  refine F.ok sc_law_kinds (fun vs H Q E h => ?_) (fun cdv A outer s H vs Q E hr h => ?_)
  · obtain ⟨x, i, f, v, rfl, _⟩ := h; rfl
  · obtain ⟨x, i, f, v, rfl, hi, e, q⟩ := h
    have T := G.T i hi
    refine ⟨_, pss_cons (ps_set (i := 1) sc_law_kinds.nd rfl (Or.inl rfl) (pe_lst (pa_cons (pe_callB call_isX (by rfl) hI (by decide +kernel) (pa_cons (pv 0) (pa_cons (pe_glob (by rfl) G.e0.m (v := .ref (c 0)) rfl) pa_nil))) (pa_cons (pe_callB call_isX (by rfl) hI (by decide +kernel) (pa_cons (pv 0) (pa_cons (pe_glob (by rfl) G.e1.m (v := .ref (c 1)) rfl) pa_nil))) (pa_cons (pe_callB call_isX (by rfl) hI (by decide +kernel) (pa_cons (pv 0) (pa_cons (pe_glob (by rfl) G.e2.m (v := .ref (c 2)) rfl) pa_nil))) pa_nil)))))
      (pss_cons (ps_set (i := 1) sc_law_kinds.nd rfl (Or.inl rfl) (pe_op op_cat (pv 1) (pe_lst (pa_cons (pe_callB call_isX (by rfl) hI (by decide +kernel) (pa_cons (pv 0) (pa_cons (pe_glob (by rfl) G.e3.m (v := .ref (c 3)) rfl) pa_nil))) (pa_cons (pe_callB call_isX (by rfl) hI (by decide +kernel) (pa_cons (pv 0) (pa_cons (pe_glob (by rfl) G.e4.m (v := .ref (c 4)) rfl) pa_nil))) (pa_cons (pe_callB call_isX (by rfl) hI (by decide +kernel) (pa_cons (pv 0) (pa_cons (pe_glob (by rfl) G.e5.m (v := .ref (c 5)) rfl) pa_nil))) pa_nil))))))
      (pss_cons (ps_set (i := 1) sc_law_kinds.nd rfl (Or.inl rfl) (pe_op op_cat (pv 1) (pe_lst (pa_cons (pe_callB call_isX (by rfl) hI (by decide +kernel) (pa_cons (pv 0) (pa_cons (pe_glob (by rfl) G.e6.m (v := .ref (c 6)) rfl) pa_nil))) (pa_cons (pe_callB call_isX (by rfl) hI (by decide +kernel) (pa_cons (pv 0) (pa_cons (pe_glob (by rfl) G.e7.m (v := .ref (c 7)) rfl) pa_nil))) (pa_cons (pe_callB call_isX (by rfl) hI (by decide +kernel) (pa_cons (pv 0) (pa_cons (pe_glob (by rfl) G.e8.m (v := .ref (c 8)) rfl) pa_nil))) pa_nil))))))
      (pss_cons (ps_set (i := 1) sc_law_kinds.nd rfl (Or.inl rfl) (pe_op op_cat (pv 1) (pe_lst (pa_cons (pe_callB call_isX (by rfl) hI (by decide +kernel) (pa_cons (pv 0) (pa_cons (pe_glob (by rfl) G.e9.m (v := .ref (c 9)) rfl) pa_nil))) (pa_cons (pe_callB call_isX (by rfl) hI (by decide +kernel) (pa_cons (pv 0) (pa_cons (pe_glob (by rfl) G.e10.m (v := .ref (c 10)) rfl) pa_nil))) (pa_cons (pe_callB call_isX (by rfl) hI (by decide +kernel) (pa_cons (pv 0) (pa_cons (pe_glob (by rfl) G.e11.m (v := .ref (c 11)) rfl) pa_nil))) pa_nil))))))
      (pss_cons (ps_set (i := 1) sc_law_kinds.nd rfl (Or.inl rfl) (pe_op op_cat (pv 1) (pe_lst (pa_cons (pe_callB call_isX (by rfl) hI (by decide +kernel) (pa_cons (pv 0) (pa_cons (pe_glob (by rfl) G.e12.m (v := .ref (c 12)) rfl) pa_nil))) (pa_cons (pe_callB call_isX (by rfl) hI (by decide +kernel) (pa_cons (pv 0) (pa_cons (pe_glob (by rfl) G.e13.m (v := .ref (c 13)) rfl) pa_nil))) (pa_cons (pe_callB call_isX (by rfl) hI (by decide +kernel) (pa_cons (pv 0) (pa_cons (pe_glob (by rfl) G.e14.m (v := .ref (c 14)) rfl) pa_nil))) pa_nil))))))
      (pss_one (ps_ret (pe_op op_cat (pv 1) (pe_lst (pa_cons (pe_callB call_isX (by rfl) hI (by decide +kernel) (pa_cons (pv 0) (pa_cons (pe_glob (by rfl) G.e15.m (v := .ref (c 15)) rfl) pa_nil))) (pa_cons (pe_callB call_isX (by rfl) hI (by decide +kernel) (pa_cons (pv 0) (pa_cons (pe_glob (by rfl) G.e16.m (v := .ref (c 16)) rfl) pa_nil))) pa_nil)))))))))), ?_⟩
    refine ⟨_, rfl, x, .ref (c 0), .ref (c 0), c i, f, v, decide (i = 0), rfl, .own _, e, T, G.is i 0 hi (by decide), ?_⟩
    refine ⟨_, rfl, x, .ref (c 1), .ref (c 1), c i, f, v, decide (i = 1), rfl, .own _, e, T, G.is i 1 hi (by decide), ?_⟩
    refine ⟨_, rfl, x, .ref (c 2), .ref (c 2), c i, f, v, decide (i = 2), rfl, .own _, e, T, G.is i 2 hi (by decide), ?_⟩
    refine ⟨lenS (by simp), fun p1 hp1 => ?_⟩
    have s1 := Same.new (o := .lst [.bl (decide (i = 0)), .bl (decide (i = 1)), .bl (decide (i = 2))]) hp1
    refine ⟨_, rfl, ?_⟩
    refine ⟨_, rfl, x, .ref (c 3), .ref (c 3), c i, f, v, decide (i = 3), rfl, .own _, (e.same s1), T, G.is i 3 hi (by decide), ?_⟩
    refine ⟨_, rfl, x, .ref (c 4), .ref (c 4), c i, f, v, decide (i = 4), rfl, .own _, (e.same s1), T, G.is i 4 hi (by decide), ?_⟩
    refine ⟨_, rfl, x, .ref (c 5), .ref (c 5), c i, f, v, decide (i = 5), rfl, .own _, (e.same s1), T, G.is i 5 hi (by decide), ?_⟩
    refine ⟨lenS (by simp), fun q2 hq2 => ⟨p1, q2, [.bl (decide (i = 0)), .bl (decide (i = 1)), .bl (decide (i = 2))], [.bl (decide (i = 3)), .bl (decide (i = 4)), .bl (decide (i = 5))], rfl, rfl, Same.new hq2 _ _ upd_same, upd_same, lenS (by simp), fun p2 hp2 => ?_⟩⟩
    have s2 := s1.trans ((Same.new (o := .lst [.bl (decide (i = 3)), .bl (decide (i = 4)), .bl (decide (i = 5))]) hq2).trans (Same.new (o := .lst ([.bl (decide (i = 0)), .bl (decide (i = 1)), .bl (decide (i = 2))] ++ [.bl (decide (i = 3)), .bl (decide (i = 4)), .bl (decide (i = 5))])) hp2))
    refine ⟨_, rfl, ?_⟩
    refine ⟨_, rfl, x, .ref (c 6), .ref (c 6), c i, f, v, decide (i = 6), rfl, .own _, (e.same s2), T, G.is i 6 hi (by decide), ?_⟩
    refine ⟨_, rfl, x, .ref (c 7), .ref (c 7), c i, f, v, decide (i = 7), rfl, .own _, (e.same s2), T, G.is i 7 hi (by decide), ?_⟩
    refine ⟨_, rfl, x, .ref (c 8), .ref (c 8), c i, f, v, decide (i = 8), rfl, .own _, (e.same s2), T, G.is i 8 hi (by decide), ?_⟩
    refine ⟨lenS (by simp), fun q3 hq3 => ⟨p2, q3, [.bl (decide (i = 0)), .bl (decide (i = 1)), .bl (decide (i = 2))] ++ [.bl (decide (i = 3)), .bl (decide (i = 4)), .bl (decide (i = 5))], [.bl (decide (i = 6)), .bl (decide (i = 7)), .bl (decide (i = 8))], rfl, rfl, Same.new hq3 _ _ upd_same, upd_same, lenS (by simp), fun p3 hp3 => ?_⟩⟩
    have s3 := s2.trans ((Same.new (o := .lst [.bl (decide (i = 6)), .bl (decide (i = 7)), .bl (decide (i = 8))]) hq3).trans (Same.new (o := .lst ([.bl (decide (i = 0)), .bl (decide (i = 1)), .bl (decide (i = 2))] ++ [.bl (decide (i = 3)), .bl (decide (i = 4)), .bl (decide (i = 5))] ++ [.bl (decide (i = 6)), .bl (decide (i = 7)), .bl (decide (i = 8))])) hp3))
    refine ⟨_, rfl, ?_⟩
    refine ⟨_, rfl, x, .ref (c 9), .ref (c 9), c i, f, v, decide (i = 9), rfl, .own _, (e.same s3), T, G.is i 9 hi (by decide), ?_⟩
    refine ⟨_, rfl, x, .ref (c 10), .ref (c 10), c i, f, v, decide (i = 10), rfl, .own _, (e.same s3), T, G.is i 10 hi (by decide), ?_⟩
    refine ⟨_, rfl, x, .ref (c 11), .ref (c 11), c i, f, v, decide (i = 11), rfl, .own _, (e.same s3), T, G.is i 11 hi (by decide), ?_⟩
    refine ⟨lenS (by simp), fun q4 hq4 => ⟨p3, q4, [.bl (decide (i = 0)), .bl (decide (i = 1)), .bl (decide (i = 2))] ++ [.bl (decide (i = 3)), .bl (decide (i = 4)), .bl (decide (i = 5))] ++ [.bl (decide (i = 6)), .bl (decide (i = 7)), .bl (decide (i = 8))], [.bl (decide (i = 9)), .bl (decide (i = 10)), .bl (decide (i = 11))], rfl, rfl, Same.new hq4 _ _ upd_same, upd_same, lenS (by simp), fun p4 hp4 => ?_⟩⟩
    have s4 := s3.trans ((Same.new (o := .lst [.bl (decide (i = 9)), .bl (decide (i = 10)), .bl (decide (i = 11))]) hq4).trans (Same.new (o := .lst ([.bl (decide (i = 0)), .bl (decide (i = 1)), .bl (decide (i = 2))] ++ [.bl (decide (i = 3)), .bl (decide (i = 4)), .bl (decide (i = 5))] ++ [.bl (decide (i = 6)), .bl (decide (i = 7)), .bl (decide (i = 8))] ++ [.bl (decide (i = 9)), .bl (decide (i = 10)), .bl (decide (i = 11))])) hp4))
    refine ⟨_, rfl, ?_⟩
    refine ⟨_, rfl, x, .ref (c 12), .ref (c 12), c i, f, v, decide (i = 12), rfl, .own _, (e.same s4), T, G.is i 12 hi (by decide), ?_⟩
    refine ⟨_, rfl, x, .ref (c 13), .ref (c 13), c i, f, v, decide (i = 13), rfl, .own _, (e.same s4), T, G.is i 13 hi (by decide), ?_⟩
    refine ⟨_, rfl, x, .ref (c 14), .ref (c 14), c i, f, v, decide (i = 14), rfl, .own _, (e.same s4), T, G.is i 14 hi (by decide), ?_⟩
    refine ⟨lenS (by simp), fun q5 hq5 => ⟨p4, q5, [.bl (decide (i = 0)), .bl (decide (i = 1)), .bl (decide (i = 2))] ++ [.bl (decide (i = 3)), .bl (decide (i = 4)), .bl (decide (i = 5))] ++ [.bl (decide (i = 6)), .bl (decide (i = 7)), .bl (decide (i = 8))] ++ [.bl (decide (i = 9)), .bl (decide (i = 10)), .bl (decide (i = 11))], [.bl (decide (i = 12)), .bl (decide (i = 13)), .bl (decide (i = 14))], rfl, rfl, Same.new hq5 _ _ upd_same, upd_same, lenS (by simp), fun p5 hp5 => ?_⟩⟩
    have s5 := s4.trans ((Same.new (o := .lst [.bl (decide (i = 12)), .bl (decide (i = 13)), .bl (decide (i = 14))]) hq5).trans (Same.new (o := .lst ([.bl (decide (i = 0)), .bl (decide (i = 1)), .bl (decide (i = 2))] ++ [.bl (decide (i = 3)), .bl (decide (i = 4)), .bl (decide (i = 5))] ++ [.bl (decide (i = 6)), .bl (decide (i = 7)), .bl (decide (i = 8))] ++ [.bl (decide (i = 9)), .bl (decide (i = 10)), .bl (decide (i = 11))] ++ [.bl (decide (i = 12)), .bl (decide (i = 13)), .bl (decide (i = 14))])) hp5))
    refine ⟨_, rfl, ?_⟩
    refine ⟨_, rfl, x, .ref (c 15), .ref (c 15), c i, f, v, decide (i = 15), rfl, .own _, (e.same s5), T, G.is i 15 hi (by decide), ?_⟩
    refine ⟨_, rfl, x, .ref (c 16), .ref (c 16), c i, f, v, decide (i = 16), rfl, .own _, (e.same s5), T, G.is i 16 hi (by decide), ?_⟩
    refine ⟨lenS (by simp), fun q6 hq6 => ⟨p5, q6, [.bl (decide (i = 0)), .bl (decide (i = 1)), .bl (decide (i = 2))] ++ [.bl (decide (i = 3)), .bl (decide (i = 4)), .bl (decide (i = 5))] ++ [.bl (decide (i = 6)), .bl (decide (i = 7)), .bl (decide (i = 8))] ++ [.bl (decide (i = 9)), .bl (decide (i = 10)), .bl (decide (i = 11))] ++ [.bl (decide (i = 12)), .bl (decide (i = 13)), .bl (decide (i = 14))], [.bl (decide (i = 15)), .bl (decide (i = 16))], rfl, rfl, Same.new hq6 _ _ upd_same, upd_same, lenS (by simp), fun p6 hp6 => ?_⟩⟩
    have s6 := s5.trans ((Same.new (o := .lst [.bl (decide (i = 15)), .bl (decide (i = 16))]) hq6).trans (Same.new (o := .lst ([.bl (decide (i = 0)), .bl (decide (i = 1)), .bl (decide (i = 2))] ++ [.bl (decide (i = 3)), .bl (decide (i = 4)), .bl (decide (i = 5))] ++ [.bl (decide (i = 6)), .bl (decide (i = 7)), .bl (decide (i = 8))] ++ [.bl (decide (i = 9)), .bl (decide (i = 10)), .bl (decide (i = 11))] ++ [.bl (decide (i = 12)), .bl (decide (i = 13)), .bl (decide (i = 14))] ++ [.bl (decide (i = 15)), .bl (decide (i = 16))])) hp6))
    exact q p6 _ s6 upd_same
end
end K13

namespace K13
open PySem L2 VR VX StX RT
/-! ### what is shown -/
/-- x is data that repr shows as D.shown -/
structure Shows (K : PySem.W.Frag) (H : Hp) (x : V) (D : PyData) : Prop where
  r : ∀ n : Nat, Rpd K H (List.replicate n x) (List.replicate n D)
  s : D.showable = true
  d : D.depth ≤ 7
  l : D.shown.length ≤ 100
theorem dpAll_rep {K : PySem.W.Frag} {H : Hp} {x : V} {D : PyData} (h : Dp K H x D) : ∀ n : Nat, DpAll K H (List.replicate n x) (List.replicate n D)
  | 0 => .nil
  | n + 1 => .cons h (dpAll_rep h n)
theorem noDict_rep {D : PyData} (h : D.hasDict = false) : ∀ n : Nat, PyData.hasDictAll (List.replicate n D) = false
  | 0 => rfl
  | n + 1 => by rw [List.replicate_succ]; simp only [PyData.hasDictAll, h, noDict_rep h n, Bool.or_self]
theorem showable_rep {D : PyData} (h : D.showable = true) : ∀ n : Nat, PyData.showableAll (List.replicate n D) = true
  | 0 => rfl
  | n + 1 => by rw [List.replicate_succ]; simp only [PyData.showableAll, h, showable_rep h n, Bool.and_self]
theorem depth_rep {D : PyData} (h : D.depth ≤ 7) : ∀ n : Nat, PyData.depthAll (List.replicate n D) ≤ 7
  | 0 => Nat.zero_le _
  | n + 1 => by
    rw [List.replicate_succ]
    simp only [PyData.depthAll]
    exact Nat.max_le.mpr ⟨h, depth_rep h n⟩
theorem shown_rep (D : PyData) : ∀ n : Nat, PyData.shownAll (List.replicate n D) = List.replicate n D.shown
  | 0 => rfl
  | n + 1 => by rw [List.replicate_succ, List.replicate_succ]; simp only [PyData.shownAll, shown_rep D n]
theorem Shows.of {K : PySem.W.Frag} {H : Hp} {x : V} {D : PyData} (h : Dp K H x D) (n : D.hasDict = false) (s : D.showable = true) (d : D.depth ≤ 7) (l : D.shown.length ≤ 100) : Shows K H x D := ⟨fun k => .inl ⟨dpAll_rep h k, noDict_rep n k⟩, s, d, l⟩
theorem sum_rep (n k : Nat) : (List.replicate n k).sum = n * k := by
  induction n with
  | zero => simp
  | succ n ih => rw [List.replicate_succ, List.sum_cons, ih, Nat.succ_mul, Nat.add_comm]
theorem Shows.len {K : PySem.W.Frag} {H : Hp} {x : V} {D : PyData} (S : Shows K H x D) {n : Nat} (hn : n ≤ 20) : (listText (PyData.shownAll (List.replicate n D))).length ≤ sizeLine := by
  rw [shown_rep]
  have h := listText_len_le (List.replicate n D.shown)
  rw [List.map_replicate, sum_rep, List.length_replicate] at h
  have h2 : n * D.shown.length ≤ n * 100 := Nat.mul_le_mul_left _ S.l
  rw [sizeLine_eq]
  omega
theorem Shows.dp {K : PySem.W.Frag} {H : Hp} {x : V} {D : PyData} (S : Shows K H x D) (n : Nat) : PyData.depthAll (List.replicate n D) ≤ 8 := Nat.le_trans (depth_rep S.d n) (by decide)
theorem shows_int {K : PySem.W.Frag} {H : Hp} {r : Int} (h0 : 0 ≤ r) (h1 : r < 10 ^ 9) : Shows K H (.int r) (.int r) := by
  refine .of (.int r) rfl ?_ (by simp [PyData.depth]) ?_
  · simp only [PyData.showable, decide_eq_true_eq]
    have hb : r.natAbs < 2 ^ 1920 := Nat.lt_of_lt_of_le (show r.natAbs < 10 ^ 9 by omega) (by decide +kernel)
    by_cases e : r.natAbs = 0
    · rw [e]; decide
    · exact (Nat.log2_lt e).mpr hb
  · simp only [PyData.shown]
    exact Nat.le_trans (PyProof.Rows.toString_length_le h0 (by decide) h1) (by decide)
def spLaw (K : PySem.W.Frag) : Sp := fun vs H Q _ => ∃ (a : Addr) (ns : List Int), vs = [.ref a] ∧ SqL K H a (iz ns) ∧ ns.length ≤ 63 ∧ ∀ H', Q (.bl true) H'
theorem sameStr {t : Str} {A B : Prop} (h : B) : if (!decide (V.str t = V.str t)) = true then A else B := by
  rw [decide_eq_true rfl]
  exact iteF h
def dbits (i : Nat) : List PyData := (List.range 17).map fun j => .bool (decide (i = j))
theorem dp_map {K : PySem.W.Frag} {H : Hp} (f : Nat → Bool) : ∀ l : List Nat, DpAll K H (l.map fun j => .bl (f j)) (l.map fun j => .bool (f j))
  | [] => .nil
  | j :: l => .cons (.bl _) (dp_map f l)
theorem dp_bits {K : PySem.W.Frag} {H : Hp} {r : Addr} {i : Nat} (h : H r = some (.lst (bits i))) : Dp K H (.ref r) (.list (dbits i)) := .lst (.of h) (dp_map _ _)
theorem bits_ok : ∀ i : Nat, i < 17 → SeqAt.shaped (.list (dbits i)) = true ∧ PyData.eqv (.list (dbits i)) (.list (dbits i)) = true := by decide +kernel
theorem bits17 : SeqAt.shaped (.list (dbits 17)) = true ∧ ((dbits 17).any fun z => PyData.eqv z (.bool true)) = false := by decide +kernel
structure Bn3 (mg : Str → Option Value) : Prop where
  rp : mg "repr" = none
  en : mg "enumerate" = none
  rg : mg "range" = none
  is : mg "isinstance" = none
  ve : mg "ValueError" = none
  re : mg "RuntimeError" = none
section
variable {P : Program} {w : World} {K : PySem.W.Frag} {mg : Str → Option Value} {base : Heap} {c : Nat → Addr} {far : Addr} {fPl fK fV fW fA fC : Addr} {dPl dK dV dW dA dC : FuncData}
theorem run_law {f : Addr} {fd : FuncData} (F : Fun K "law" "law" S_law f fd) (G : Errs P w K mg base c far) (B2 : Bn2 mg) (B : Bn3 mg)
    (Pl : Fun K "_law_pool" "_law_pool" S_law_pool fPl dPl) (bPl : Binds K dPl ["_law_script", "_law_k"] []) (gPl : mg "_law_pool" = some (.ref fPl))
    (Tk : Fun K "_law_take" "_law_take" S_law_take fK dK) (bK : Binds K dK ["_law_pool_here", "_law_wide"] []) (gK : mg "_law_take" = some (.ref fK))
    (Va : Fun K "_law_by_value" "_law_by_value" S_law_by_value fV dV) (bV : Binds K dV ["_law_thing"] []) (gV : mg "_law_by_value" = some (.ref fV))
    (Wo : Fun K "_law_by_word" "_law_by_word" S_law_by_word fW dW) (bW : Binds K dW ["_law_thing"] []) (gW : mg "_law_by_word" = some (.ref fW))
    (Al : Fun K "_law_all" "_law_all" S_law_all fA dA) (bA : Binds K dA [] []) (gA : mg "_law_all" = some (.ref fA))
    (Ki : Fun K "_law_kinds" "_law_kinds" S_law_kinds fC dC) (bC : Binds K dC ["_law_error"] []) (gC : mg "_law_kinds" = some (.ref fC)) :
    RunG P w K mg base CX0 4 f fd ["_law_script"] (spLaw K) := by
  have GPl : FnOk P w K mg base CX0 1 fPl dPl ["_law_script", "_law_k"] (spPool K) := ok_pool Pl B2
  have GK : FnOk P w K mg base CX0 1 fK dK ["_law_pool_here", "_law_wide"] spTake := ok_take Tk B2
  have GV : FnOk P w K mg base CX0 3 fV dV ["_law_thing"] spVal := ok_by_value Va G
  have GW : FnOk P w K mg base CX0 3 fW dW ["_law_thing"] spWord := ok_by_word Wo G
  have GA : FnOk P w K mg base CX0 3 fA dA [] (spAll c) := ok_all Al G
  have GC : FnOk P w K mg base CX0 1 fC dC ["_law_error"] (spKinds c) := ok_kinds Ki G B.is
  refine okG F sc_law (fun vs H Q E h => ?_) (fun cdv A outer s H vs Q E hg hr h => ?_)
  · obtain ⟨a, ns, rfl, _⟩ := h; rfl
  · obtain ⟨a, ns, rfl, ha, hl, q⟩ := h
    have hr1 : Room 1 _ := hr.mono (by decide)
    have hr2 : Room 2 _ := hr.mono (by decide)
    refine ⟨_, pss_cons (ps_set (i := 1) sc_law.nd rfl (Or.inl rfl) (pe_call GPl hr1 (by rfl) gPl Pl.kp bPl .nil pass0 (pa_cons (pv 0) (pa_cons pe_int pa_nil))))
      (pss_cons (ps_for PassesOwn.never rfl (pi_list (pe_lst (pa_cons pe_non (pa_cons (pe_call GK hr1 (by rfl) gK Tk.kp bK .nil pass0 (pa_cons (pv 1) (pa_cons (pe_op op_pow pe_int pe_int) pa_nil))) (pa_cons pe_str (pa_cons (pe_tup (pa_cons pe_int (pa_cons pe_int pa_nil)))
          (pa_cons (pe_lst (pa_cons pe_str pa_nil)) (pa_cons pe_dnewT pa_nil)))))))) (pg_name (i := 2) sc_law.nd rfl (Or.inl rfl))
        (pss_one (ps_if (PW.pt (pw_or (pt_cmpR op_ne (pe_callB (call_reprL hg hr) (by rfl) B.rp (by decide +kernel) (pa_cons (pe_call GV hr (by rfl) gV Va.kp bV .nil pass0 (pa_cons (pv 2) pa_nil)) pa_nil))
              (pe_callB (call_reprL hg hr) (by rfl) B.rp (by decide +kernel) (pa_cons (pe_op op_rep (pe_lst (pa_cons (pv 2) pa_nil)) pe_int) pa_nil)) (nomark _))
            (pw_or1 (pt_cmpR op_ne (pe_callB (call_reprL hg hr) (by rfl) B.rp (by decide +kernel) (pa_cons (pe_call GW hr (by rfl) gW Wo.kp bW .nil pass0 (pa_cons (pv 2) pa_nil)) pa_nil))
              (pe_callB (call_reprL hg hr) (by rfl) B.rp (by decide +kernel) (pa_cons (pe_op op_rep (pe_lst (pa_cons (pv 2) pa_nil)) pe_int) pa_nil)) (nomark _)))))
          (pss_one (ps_ret pe_bl)) pss_nil)))
      (pss_cons (ps_set (i := 3) sc_law.nd rfl (Or.inl rfl) (pe_call0 GA hr (by rfl) gA Al.kp bA .nil pass0))
      (pss_cons (ps_for PassesOwn.never rfl (pi_enum (by rfl) B.en (pa_cons (pv 3) pa_nil)) (pg_tup rfl (pgs_cons (pg_name (i := 4) sc_law.nd rfl (Or.inr rfl)) (pgs_cons (pg_name (i := 5) sc_law.nd rfl (Or.inl rfl)) pgs_nil)))
        (pss_cons (ps_if (pt_cmpR (op_neD hr.units) (pe_call GC hr1 (by rfl) gC Ki.kp bC .nil pass0 (pa_cons (pv 5) pa_nil))
            (pe_lc (own := [("_law_place", 7)]) (g := gName 7) (by rfl) sc_law.nd (pi_range1 (by rfl) B.rg (pa_cons pe_int pa_nil))
              (blkOk_by (own := [("_law_place", 7)]) (N := ["_law_script", "_law_pool_here", "_law_thing", "_law_every", "_law_at", "_law_error", "_law_late", "_law_place"]) (sc := defScope S_law) (by decide +kernel)) (fun _ _ _ _ _ => pg_name (i := 7) sc_law.nd rfl (Or.inl rfl)) (fun _ _ _ _ _ => pts_nil)
              (fun _ _ _ _ _ => pe_cmpR op_eq (pv 7) (pv 4) (nomark _))) (nomark _))
          (pss_one (ps_ret pe_bl)) pss_nil)
        (pss_one (ps_if (PW.pt (pw_or (pt_not (pt_val (pe_callB call_isX (by rfl) B.is (by decide +kernel) (pa_cons (pv 5) (pa_cons (pe_glob (by rfl) G.mF (v := .ref far) rfl) pa_nil)))))
            (pw_or (pt_not (pt_val (pe_callB call_isX (by rfl) B.is (by decide +kernel) (pa_cons (pv 5) (pa_cons (pe_bltn (by rfl) B.ve (u := .type "ValueError") (v := .ty "ValueError") (by decide +kernel) rfl) pa_nil)))))
            (pw_or1 (pt_val (pe_callB call_isX (by rfl) B.is (by decide +kernel) (pa_cons (pv 5) (pa_cons (pe_bltn (by rfl) B.re (u := .type "RuntimeError") (v := .ty "RuntimeError") (by decide +kernel) rfl) pa_nil))))))))
          (pss_one (ps_ret pe_bl)) pss_nil))))
      (pss_cons (ps_set (i := 6) sc_law.nd rfl (Or.inl rfl) (pe_p G.e17 hr2 pe_str))
      (pss_one (ps_ret (pe_and (pe_callB call_isX (by rfl) B.is (by decide +kernel) (pa_cons (pv 6) (pa_cons (pe_bltn (by rfl) B.re (u := .type "RuntimeError") (v := .ty "RuntimeError") (by decide +kernel) rfl) pa_nil)))
        (pe_and (pe_not (pe_callB call_isX (by rfl) B.is (by decide +kernel) (pa_cons (pv 6) (pa_cons (pe_bltn (by rfl) B.ve (u := .type "ValueError") (v := .ty "ValueError") (by decide +kernel) rfl) pa_nil))))
        (pe_one (pe_cmpR (op_notInD (by have h := hr.un; show (A.deeper _).units + 65 < cLine; omega)) pe_bl (pe_call GC hr1 (by rfl) gC Ki.kp bC .nil pass0 (pa_cons (pv 6) pa_nil)) (by rfl))))))))))), ?_⟩
    refine ⟨_, rfl, a, ns, 0, rfl, ha, by decide, hl, fun p H1 hp0 s1 hP1 => ?_⟩
    refine ⟨_, rfl, _, _, rfl, rfl, ⟨by decide, by decide, by decide⟩, p, 10 ^ 9, rfl, hP1, by decide, by decide, fun r H2 r0 r1 hP2 b2 f2 => ?_⟩
    refine ⟨lenS (by simp), fun t ht => ⟨lenS (by simp), fun l hl' => fun d hd => ⟨lenS (by simp), fun m hm => ⟨m, rfl, ⟨_, .of upd_same⟩, ?_⟩⟩⟩⟩
    have ft := (Same.new (o := .lst [.non, .int r, .str "word", .ref t, .ref l, .ref d]) hm) _ _ ((Same.new (o := .dT []) hd) _ _ ((Same.new (o := .lst [.str "a"]) hl') _ _ (upd_same (H := H2) (a := t) (o := .tup [.int 1, .int 2]))))
    have fl := (Same.new (o := .lst [.non, .int r, .str "word", .ref t, .ref l, .ref d]) hm) _ _ ((Same.new (o := .dT []) hd) _ _ (upd_same (H := upd H2 t (.tup [.int 1, .int 2])) (a := l) (o := .lst [.str "a"])))
    have fd' := (Same.new (o := .lst [.non, .int r, .str "word", .ref t, .ref l, .ref d]) hm) _ _ (upd_same (H := upd (upd H2 t (.tup [.int 1, .int 2])) l (.lst [.str "a"])) (a := d) (o := .dT []))
    have fm := upd_same (H := upd (upd (upd H2 t (.tup [.int 1, .int 2])) l (.lst [.str "a"])) d (.dT [])) (a := m) (o := .lst [.non, .int r, .str "word", .ref t, .ref l, .ref d])
    generalize upd (upd (upd (upd H2 t (.tup [.int 1, .int 2])) l (.lst [.str "a"])) d (.dT [])) m (.lst [.non, .int r, .str "word", .ref t, .ref l, .ref d]) = Hm at ft fl fd' fm
    have SH : ∀ (i : Nat) (x : V), [V.non, .int r, .str "word", .ref t, .ref l, .ref d][i]? = some x → ∃ D, ∀ H', Same Hm H' → Shows K H' x D := by
      intro i x hx
      match i, hx with
      | 0, hx => cases hx; exact ⟨.none, fun H' s => .of .non rfl rfl (by decide) (by decide +kernel)⟩
      | 1, hx => cases hx; exact ⟨.int r, fun H' s => shows_int r0 r1⟩
      | 2, hx => cases hx; exact ⟨.str "word", fun H' s => .of (.str _) rfl rfl (by decide) (by decide +kernel)⟩
      | 3, hx => cases hx; exact ⟨.tuple [.int 1, .int 2], fun H' s => .of (.tup (.of (s _ _ ft)) (.cons (.int 1) (.cons (.int 2) .nil))) rfl (by decide +kernel) (by decide) (by decide +kernel)⟩
      | 4, hx => cases hx; exact ⟨.list [.str "a"], fun H' s => .of (.lst (.of (s _ _ fl)) (.cons (.str _) .nil)) rfl rfl (by decide) (by decide +kernel)⟩
      | 5, hx => cases hx; exact ⟨.dict [], fun H' s => ⟨fun n => .inr ⟨d, n, s _ _ fd', rfl, rfl⟩, rfl, by decide, by decide +kernel⟩⟩
      | i + 6, hx => exact nomatch hx
    refine for_list (xs := [.non, .int r, .str "word", .ref t, .ref l, .ref d]) (fun i σ H' => ∃ v2, σ = [some (.ref a), some (.ref p), v2, none, none, none, none, none] ∧ Same Hm H') ⟨none, rfl, Same.refl _⟩ (fun i σ H' _ ⟨_, _, s⟩ => .of (s _ _ fm)) ?_ ?_
    · rintro i x σ H' hx ⟨v2, rfl, s⟩
      obtain ⟨D, hD⟩ := SH i x hx
      refine ⟨_, rfl, x, rfl, fun e1 J1 u1 g1 => have S := hD _ (s.trans u1); ⟨e1, x, List.replicate 15 x, List.replicate 16 D, rfl, .of g1, S.r 16, showable_rep S.s 16, S.dp 16, S.len (by decide), ?_⟩⟩
      refine ⟨_, rfl, ⟨lenS (by simp), fun w1 hw1 => ⟨w1, 16, [x], rfl, rfl, upd_same, by decide, by decide, lenS (by simp), fun w2 hw2 => have S := hD _ ((s.trans u1).trans ((Same.new hw1).trans (Same.new (o := .lst (List.replicate 16 [x]).flatten) hw2))); ⟨w2, x, List.replicate 15 x, List.replicate 16 D, rfl, .of upd_same, S.r 16, showable_rep S.s 16, S.dp 16, S.len (by decide), ?_⟩⟩⟩⟩
      refine ⟨rfl, _, rfl, sameStr ?_⟩
      have s2 := (s.trans u1).trans ((Same.new (o := .lst [x]) hw1).trans (Same.new (o := .lst (List.replicate 16 [x]).flatten) hw2))
      refine ⟨_, rfl, x, rfl, fun e3 J3 u3 g3 => have S := hD _ (s2.trans u3); ⟨e3, x, List.replicate 13 x, List.replicate 14 D, rfl, .of g3, S.r 14, showable_rep S.s 14, S.dp 14, S.len (by decide), ?_⟩⟩
      refine ⟨_, rfl, ⟨lenS (by simp), fun w3 hw3 => ⟨w3, 14, [x], rfl, rfl, upd_same, by decide, by decide, lenS (by simp), fun w4 hw4 => have S := hD _ ((s2.trans u3).trans ((Same.new hw3).trans (Same.new (o := .lst (List.replicate 14 [x]).flatten) hw4))); ⟨w4, x, List.replicate 13 x, List.replicate 14 D, rfl, .of upd_same, S.r 14, showable_rep S.s 14, S.dp 14, S.len (by decide), ?_⟩⟩⟩⟩
      refine ⟨rfl, _, rfl, sameStr ?_⟩
      exact ⟨_, rfl, (s2.trans u3).trans ((Same.new hw3).trans (Same.new hw4))⟩
    · rintro σ H' ⟨v2, rfl, s⟩
      refine ⟨rfl, fun e J3 xs u3 ge le fe => ?_⟩
      refine ⟨_, rfl, e, xs, rfl, .of ge, for_it (walk_enum (xs := xs)) (fun i σ H' => ∃ v4 v5, σ = [some (.ref a), some (.ref p), v2, some (.ref e), v4, v5, none, none] ∧ Same J3 H') ⟨none, none, rfl, Same.refl _⟩ (fun i σ H' _ ⟨_, _, _, s⟩ => .of (s _ _ ge)) ?_ ?_⟩
      · rintro i v σ H4 H5 hi ⟨v4, v5, rfl, s4⟩ ⟨T, x', y', rfl, hT, rfl, ex, ey⟩
        cases ex
        obtain ⟨f5, w5, hx⟩ := fe i y' ey
        have hi7 : i < 17 := by omega
        have s5 := s4.trans (Same.new (o := .tup [.int (i : Nat), y']) hT)
        refine ⟨T, _, rfl, .of upd_same, rfl, _, _, rfl, _, _, rfl, rfl, ?_⟩
        refine ⟨_, rfl, y', i, f5, w5, rfl, by omega, hx.same s5, fun r1 J1 u1 g1 => ?_⟩
        refine ⟨17, rfl, by decide, by decide, fun D hD => ?_⟩
        refine lc_it (walk_range (lo := 0) (n := 17)) (fun j H' => H' D = some (.lst ((List.range j).map fun j => .bl (decide (i = j)))) ∧ Same J1 H') ⟨upd_same, Same.new hD⟩ (fun _ _ _ _ => trivial) ?_ ?_
        · rintro j v H5 H6 hj ⟨hd, s6⟩ ⟨rfl, rfl⟩
          refine ⟨rfl, ?_⟩
          refine ⟨_, rfl, _, rfl, rfl, _, hd, by rw [List.length_map, List.length_range]; exact small1000 (by omega), ?_, s6.upd0 hD⟩
          rw [upd_same, List.range_succ, List.map_append]
          have ej : decide (V.int (0 + (j : Int)) = V.int (i : Int)) = decide (i = j) := by
            apply decide_eq_decide.mpr
            constructor
            · intro z; have z := V.int.inj z; omega
            · intro z; subst z; simp
          rw [ej]
          rfl
        · rintro H6 ⟨hd, s6⟩
          refine ⟨.list (dbits i), .list (dbits i), dp_bits (s6 _ _ g1), dp_bits hd, (bits_ok i hi7).1, (bits_ok i hi7).1, _, rfl, ?_⟩
          rw [(bits_ok i hi7).2]
          refine iteF ?_
          have hy := hx.same ((s5.trans u1).trans s6)
          have T := G.T i (by omega)
          refine ⟨_, rfl, y', .ref far, .ref far, c i, f5, w5, true, rfl, .own _, hy, T, G.isF i hi7, true, rfl, ?_⟩
          refine iteF ?_
          refine ⟨_, rfl, y', .ty "ValueError", .type "ValueError", c i, f5, w5, true, rfl, .ty _, hy, T, G.isV i hi7, true, rfl, ?_⟩
          refine iteF ?_
          refine ⟨_, rfl, y', .ty "RuntimeError", .type "RuntimeError", c i, f5, w5, false, rfl, .ty _, hy, T, G.isR i hi7, false, rfl, ?_⟩
          refine iteF ?_
          exact ⟨_, _, rfl, (s5.trans u1).trans s6⟩
      · rintro σ H6 ⟨v4, v5, rfl, s6⟩
        refine fun x H7 u7 hx => ?_
        have T := G.T 17 (by decide)
        refine ⟨_, rfl, x, .ty "RuntimeError", .type "RuntimeError", c 17, "word", .str "steps", true, rfl, .ty _, hx, T, G.lR, true, rfl, ?_⟩
        refine iteT ?_
        refine ⟨_, rfl, x, .ty "ValueError", .type "ValueError", c 17, "word", .str "steps", false, rfl, .ty _, hx, T, G.lV, false, rfl, true, rfl, ?_⟩
        refine iteT ?_
        refine ⟨_, rfl, x, 17, "word", .str "steps", rfl, by decide, hx, fun r1 J1 u1 g1 => ?_⟩
        refine ⟨.bool true, dbits 17, .bl true, dp_bits g1, rfl, bits17.1, ?_⟩
        rw [bits17.2]
        exact q J1
end
end K13

namespace K13
open PySem L2 VR VX StX RT
/-! ### the classes in the written part -/
abbrev veM (far : Addr) : List Value := [.ref far, .type "ValueError", .type "Exception", .type "BaseException", .type "object"]
abbrev reM : List Value := [.type "RuntimeError", .type "Exception", .type "BaseException", .type "object"]
/-- the class at C: its mro is its own and bm -/
structure MroC (K : PySem.W.Frag) (C : Addr) (bm : List Value) : Prop where
  m : ∀ b : Value, PySem.W.subIn K (.ref C) b = some ((Value.ref C :: bm).contains b)
  s : PySem.W.isClsIn K C = true
  t : PySem.W.typeIn K (.ref C) = some (.type "type")
theorem mroC_of {K : PySem.W.Frag} {C N : Addr} {nm q : Str} {bs bm : List Value} {sn : List Str} {sub : List Value} {ab : Bool} {col : Option Bool} {dd : Option Addr} {k0 k1 k2 k3 k5 : Option Value} {newId : String} (l : K.lookup C = some (excClassObj nm q C N bs bm true sn sub ab col dd k0 k1 k2 k3 k5 newId)) : MroC K C bm := by
  have e : PySem.W.clsIn K C = some { name := nm, bases := bs, mro := .ref C :: bm, ns := N, qualname := q, hasDict := true, slotNames := sn, subclasses := sub, abstract := ab, collection := col, hasDel := false } := by unfold PySem.W.clsIn; rw [l] <;> rfl
  refine ⟨fun b => ?_, ?_, ?_⟩
  · show ((PySem.W.clsIn K C).bind fun cd => if cd.mro.isEmpty = true then none else some (cd.mro.contains b)) = _
    rw [e]
    rfl
  · unfold PySem.W.isClsIn
    rw [e]
    rfl
  · show (K.lookup C).map (fun x => x.cls) = _
    rw [l]
    rfl
theorem MroC.own {K : PySem.W.Frag} {C D : Addr} {bm : List Value} (h : MroC K C bm) (s : PySem.W.isClsIn K D = true) (t : PySem.W.typeIn K (.ref D) = some (.type "type")) (n : C ≠ D) {b : Bool} (e : bm.contains (.ref D) = b) : PySem.W.kitOne K (.ref C) (.ref D) = some b := by
  have n1 : (Value.ref C == Value.ref D) = false := beq_eq_false_iff_ne.mpr fun z => n (Value.ref.inj z)
  have n2 : (Value.ref D == Value.ref C) = false := beq_eq_false_iff_ne.mpr fun z => n (Value.ref.inj z).symm
  have q : ((PySem.W.clsIn K D).isSome && PySem.W.typeIn K (.ref D) == some (.type "type")) = true := by
    rw [t]
    simpa [PySem.W.isClsIn] using s
  unfold PySem.W.kitOne PySem.W.kitCls
  rw [n1, if_neg Bool.false_ne_true]
  show (if _ = true then _ else _) = _
  rw [if_pos q, h.m, List.contains_cons, n2, Bool.false_or, e]
theorem MroC.ty {K : PySem.W.Frag} {C : Addr} {bm : List Value} (h : MroC K C bm) {T : String} (m : PySem.W.kitMeta T = true) {b : Bool} (e : bm.contains (.type T) = b) : PySem.W.kitOne K (.ref C) (.type T) = some b := by
  have n1 : (Value.ref C == Value.type T) = false := beq_eq_false_iff_ne.mpr fun z => nomatch z
  have n2 : (Value.type T == Value.ref C) = false := beq_eq_false_iff_ne.mpr fun z => nomatch z
  unfold PySem.W.kitOne PySem.W.kitCls
  rw [n1, if_neg Bool.false_ne_true]
  show (if _ = true then _ else _) = _
  rw [if_pos m, h.m, List.contains_cons, n2, Bool.false_or, e]
theorem far_only {far C : Addr} (n : C ≠ far) : (veM far).contains (.ref C) = false := by
  have n2 : (Value.ref C == Value.ref far) = false := beq_eq_false_iff_ne.mpr fun z => n (Value.ref.inj z)
  rw [List.contains_cons, n2]
  rfl
theorem oxC_ve {K : PySem.W.Frag} {C N far : Addr} {nm q : Str} {bs : List Value} {sn : List Str} {sub : List Value} {ab : Bool} {col : Option Bool} {dd : Option Addr} {k0 k1 k2 k3 k5 : Option Value} (l : K.lookup C = some (excClassObj nm q C N bs (veM far) true sn sub ab col dd k0 k1 k2 k3 k5 "ValueError.__new__"))
    (sa : PySem.W.findIn K (.ref C) "__setattr__" = some (some (.builtin "object.__setattr__"))) (kC : PySem.W.keepIn K (.ref C) = true) (ga : PySem.W.findIn K (.ref C) "__getattribute__" = some (some (.builtin "BaseException.__getattribute__"))) (gg : PySem.W.findIn K (.ref C) "__getattr__" = some none)
    (ex : PySem.W.subIn K (.ref C) (.type "BaseException") = some true) (ac : PySem.W.findIn K (.ref C) "__class__" = some (some (.builtin "object.__class__"))) (an : PySem.W.specialIn K (.builtin "object.__class__") "__get__" = some (some (.builtin "getset_descriptor.__get__"))) (tk : PySem.W.takesIn K (.builtin "object.__class__") = some true) (mo : PySem.W.mroIn K C (.type "object") = some true) : OxC K C :=
  ⟨⟨nm, q, N, bs, veM far, sn, sub, ab, col, dd, k0, k1, k2, k3, k5, "ValueError", "ValueError.__new__", "ValueError.__init__", _, PySem.F.excBase_ValueError, l, fun Y => PySem.HandSPX.refsVE_contains Y (veM far) rfl, fun self => PySem.HandSPX.refsVE_pass self _ rfl, (PySem.HandSPX.refsVE_contains "object" (veM far) rfl).trans (by decide +kernel)⟩, sa, kC, ga, gg, ex, ac, an, tk, mo⟩
theorem oxC_re {K : PySem.W.Frag} {C N : Addr} {nm q : Str} {bs : List Value} {sn : List Str} {sub : List Value} {ab : Bool} {col : Option Bool} {dd : Option Addr} {k0 k1 k2 k3 k5 : Option Value} (l : K.lookup C = some (excClassObj nm q C N bs reM true sn sub ab col dd k0 k1 k2 k3 k5 "RuntimeError.__new__"))
    (sa : PySem.W.findIn K (.ref C) "__setattr__" = some (some (.builtin "object.__setattr__"))) (kC : PySem.W.keepIn K (.ref C) = true) (ga : PySem.W.findIn K (.ref C) "__getattribute__" = some (some (.builtin "BaseException.__getattribute__"))) (gg : PySem.W.findIn K (.ref C) "__getattr__" = some none)
    (ex : PySem.W.subIn K (.ref C) (.type "BaseException") = some true) (ac : PySem.W.findIn K (.ref C) "__class__" = some (some (.builtin "object.__class__"))) (an : PySem.W.specialIn K (.builtin "object.__class__") "__get__" = some (some (.builtin "getset_descriptor.__get__"))) (tk : PySem.W.takesIn K (.builtin "object.__class__") = some true) (mo : PySem.W.mroIn K C (.type "object") = some true) : OxC K C :=
  ⟨⟨nm, q, N, bs, reM, sn, sub, ab, col, dd, k0, k1, k2, k3, k5, "RuntimeError", "RuntimeError.__new__", "RuntimeError.__init__", _, PySem.F.excBase_RuntimeError, l, fun Y => rfl, fun self => by rw [refuseLoop_ref]; exact PySem.F.store_RuntimeError.passes self, by decide +kernel⟩, sa, kC, ga, gg, ex, ac, an, tk, mo⟩
theorem all_mk {l : PySem.W.OpenLaw} {w : World} {K : PySem.W.Frag} {h : Heap} {mg : Str → Option Value} {fa far : Addr}
    {fPl : Addr} {ocPl kVPl dcPl pmPl cdPl ctPl : Value} {odPl anPl : Option Addr} {slPl : Array (Option Value)}
    {fTk : Addr} {ocTk kVTk dcTk pmTk cdTk ctTk : Value} {odTk anTk : Option Addr} {slTk : Array (Option Value)}
    {fVa : Addr} {ocVa kVVa dcVa pmVa cdVa ctVa : Value} {odVa anVa : Option Addr} {slVa : Array (Option Value)}
    {fWo : Addr} {ocWo kVWo dcWo pmWo cdWo ctWo : Value} {odWo anWo : Option Addr} {slWo : Array (Option Value)}
    {fAl : Addr} {ocAl kVAl dcAl pmAl cdAl ctAl : Value} {odAl anAl : Option Addr} {slAl : Array (Option Value)}
    {fKi : Addr} {ocKi kVKi dcKi pmKi cdKi ctKi : Value} {odKi anKi : Option Addr} {slKi : Array (Option Value)}
    {fLa : Addr} {ocLa kVLa dcLa pmLa cdLa ctLa : Value} {odLa anLa : Option Addr} {slLa : Array (Option Value)}
    {C0 N0 : Addr} {nm0 q0 : Str} {bs0 sb0 : List Value} {sn0 : List Str} {ab0 : Bool} {co0 : Option Bool} {dd0 : Option Addr} {x0 y0 z0 u0 v0 : Option Value}
    {fE0 : Addr} {ocE0 kVE0 dcE0 pmE0 cdE0 ctE0 : Value} {odE0 anE0 : Option Addr} {slE0 : Array (Option Value)}
    {C1 N1 : Addr} {nm1 q1 : Str} {bs1 sb1 : List Value} {sn1 : List Str} {ab1 : Bool} {co1 : Option Bool} {dd1 : Option Addr} {x1 y1 z1 u1 v1 : Option Value}
    {fE1 : Addr} {ocE1 kVE1 dcE1 pmE1 cdE1 ctE1 : Value} {odE1 anE1 : Option Addr} {slE1 : Array (Option Value)}
    {C2 N2 : Addr} {nm2 q2 : Str} {bs2 sb2 : List Value} {sn2 : List Str} {ab2 : Bool} {co2 : Option Bool} {dd2 : Option Addr} {x2 y2 z2 u2 v2 : Option Value}
    {fE2 : Addr} {ocE2 kVE2 dcE2 pmE2 cdE2 ctE2 : Value} {odE2 anE2 : Option Addr} {slE2 : Array (Option Value)}
    {C3 N3 : Addr} {nm3 q3 : Str} {bs3 sb3 : List Value} {sn3 : List Str} {ab3 : Bool} {co3 : Option Bool} {dd3 : Option Addr} {x3 y3 z3 u3 v3 : Option Value}
    {fE3 : Addr} {ocE3 kVE3 dcE3 pmE3 cdE3 ctE3 : Value} {odE3 anE3 : Option Addr} {slE3 : Array (Option Value)}
    {C4 N4 : Addr} {nm4 q4 : Str} {bs4 sb4 : List Value} {sn4 : List Str} {ab4 : Bool} {co4 : Option Bool} {dd4 : Option Addr} {x4 y4 z4 u4 v4 : Option Value}
    {fE4 : Addr} {ocE4 kVE4 dcE4 pmE4 cdE4 ctE4 : Value} {odE4 anE4 : Option Addr} {slE4 : Array (Option Value)}
    {C5 N5 : Addr} {nm5 q5 : Str} {bs5 sb5 : List Value} {sn5 : List Str} {ab5 : Bool} {co5 : Option Bool} {dd5 : Option Addr} {x5 y5 z5 u5 v5 : Option Value}
    {fE5 : Addr} {ocE5 kVE5 dcE5 pmE5 cdE5 ctE5 : Value} {odE5 anE5 : Option Addr} {slE5 : Array (Option Value)}
    {C6 N6 : Addr} {nm6 q6 : Str} {bs6 sb6 : List Value} {sn6 : List Str} {ab6 : Bool} {co6 : Option Bool} {dd6 : Option Addr} {x6 y6 z6 u6 v6 : Option Value}
    {fE6 : Addr} {ocE6 kVE6 dcE6 pmE6 cdE6 ctE6 : Value} {odE6 anE6 : Option Addr} {slE6 : Array (Option Value)}
    {C7 N7 : Addr} {nm7 q7 : Str} {bs7 sb7 : List Value} {sn7 : List Str} {ab7 : Bool} {co7 : Option Bool} {dd7 : Option Addr} {x7 y7 z7 u7 v7 : Option Value}
    {fE7 : Addr} {ocE7 kVE7 dcE7 pmE7 cdE7 ctE7 : Value} {odE7 anE7 : Option Addr} {slE7 : Array (Option Value)}
    {C8 N8 : Addr} {nm8 q8 : Str} {bs8 sb8 : List Value} {sn8 : List Str} {ab8 : Bool} {co8 : Option Bool} {dd8 : Option Addr} {x8 y8 z8 u8 v8 : Option Value}
    {fE8 : Addr} {ocE8 kVE8 dcE8 pmE8 cdE8 ctE8 : Value} {odE8 anE8 : Option Addr} {slE8 : Array (Option Value)}
    {C9 N9 : Addr} {nm9 q9 : Str} {bs9 sb9 : List Value} {sn9 : List Str} {ab9 : Bool} {co9 : Option Bool} {dd9 : Option Addr} {x9 y9 z9 u9 v9 : Option Value}
    {fE9 : Addr} {ocE9 kVE9 dcE9 pmE9 cdE9 ctE9 : Value} {odE9 anE9 : Option Addr} {slE9 : Array (Option Value)}
    {C10 N10 : Addr} {nm10 q10 : Str} {bs10 sb10 : List Value} {sn10 : List Str} {ab10 : Bool} {co10 : Option Bool} {dd10 : Option Addr} {x10 y10 z10 u10 v10 : Option Value}
    {fE10 : Addr} {ocE10 kVE10 dcE10 pmE10 cdE10 ctE10 : Value} {odE10 anE10 : Option Addr} {slE10 : Array (Option Value)}
    {C11 N11 : Addr} {nm11 q11 : Str} {bs11 sb11 : List Value} {sn11 : List Str} {ab11 : Bool} {co11 : Option Bool} {dd11 : Option Addr} {x11 y11 z11 u11 v11 : Option Value}
    {fE11 : Addr} {ocE11 kVE11 dcE11 pmE11 cdE11 ctE11 : Value} {odE11 anE11 : Option Addr} {slE11 : Array (Option Value)}
    {C12 N12 : Addr} {nm12 q12 : Str} {bs12 sb12 : List Value} {sn12 : List Str} {ab12 : Bool} {co12 : Option Bool} {dd12 : Option Addr} {x12 y12 z12 u12 v12 : Option Value}
    {fE12 : Addr} {ocE12 kVE12 dcE12 pmE12 cdE12 ctE12 : Value} {odE12 anE12 : Option Addr} {slE12 : Array (Option Value)}
    {C13 N13 : Addr} {nm13 q13 : Str} {bs13 sb13 : List Value} {sn13 : List Str} {ab13 : Bool} {co13 : Option Bool} {dd13 : Option Addr} {x13 y13 z13 u13 v13 : Option Value}
    {fE13 : Addr} {ocE13 kVE13 dcE13 pmE13 cdE13 ctE13 : Value} {odE13 anE13 : Option Addr} {slE13 : Array (Option Value)}
    {C14 N14 : Addr} {nm14 q14 : Str} {bs14 sb14 : List Value} {sn14 : List Str} {ab14 : Bool} {co14 : Option Bool} {dd14 : Option Addr} {x14 y14 z14 u14 v14 : Option Value}
    {fE14 : Addr} {ocE14 kVE14 dcE14 pmE14 cdE14 ctE14 : Value} {odE14 anE14 : Option Addr} {slE14 : Array (Option Value)}
    {C15 N15 : Addr} {nm15 q15 : Str} {bs15 sb15 : List Value} {sn15 : List Str} {ab15 : Bool} {co15 : Option Bool} {dd15 : Option Addr} {x15 y15 z15 u15 v15 : Option Value}
    {fE15 : Addr} {ocE15 kVE15 dcE15 pmE15 cdE15 ctE15 : Value} {odE15 anE15 : Option Addr} {slE15 : Array (Option Value)}
    {C16 N16 : Addr} {nm16 q16 : Str} {bs16 sb16 : List Value} {sn16 : List Str} {ab16 : Bool} {co16 : Option Bool} {dd16 : Option Addr} {x16 y16 z16 u16 v16 : Option Value}
    {fE16 : Addr} {ocE16 kVE16 dcE16 pmE16 cdE16 ctE16 : Value} {odE16 anE16 : Option Addr} {slE16 : Array (Option Value)}
    {C17 N17 : Addr} {nm17 q17 : Str} {bs17 sb17 : List Value} {sn17 : List Str} {ab17 : Bool} {co17 : Option Bool} {dd17 : Option Addr} {x17 y17 z17 u17 v17 : Option Value}
    {fE17 : Addr} {ocE17 kVE17 dcE17 pmE17 cdE17 ctE17 : Value} {odE17 anE17 : Option Addr} {slE17 : Array (Option Value)}
    (X : K.In h) (G : h.Ns mainGlobals mg) (hfa : mg "law" = some (.ref fa))
    (aPl : PySem.W.nsIn K mainGlobals "_law_pool" = some (some (.ref fPl)))
    (lPl : K.lookup fPl = some ⟨ocPl, odPl, .func (PySem.W.fnOf "_law_pool" "_law_pool" (defArgs S_law_pool) (defBody S_law_pool) (defScope S_law_pool) .none kVPl dcPl pmPl anPl cdPl ctPl), slPl⟩)
    (cPl : PySem.W.codeIn K cdPl "_law_pool" = true)
    (kPl : PySem.W.keepIn K (.ref fPl) = true)
    (aTk : PySem.W.nsIn K mainGlobals "_law_take" = some (some (.ref fTk)))
    (lTk : K.lookup fTk = some ⟨ocTk, odTk, .func (PySem.W.fnOf "_law_take" "_law_take" (defArgs S_law_take) (defBody S_law_take) (defScope S_law_take) .none kVTk dcTk pmTk anTk cdTk ctTk), slTk⟩)
    (cTk : PySem.W.codeIn K cdTk "_law_take" = true)
    (kTk : PySem.W.keepIn K (.ref fTk) = true)
    (aVa : PySem.W.nsIn K mainGlobals "_law_by_value" = some (some (.ref fVa)))
    (lVa : K.lookup fVa = some ⟨ocVa, odVa, .func (PySem.W.fnOf "_law_by_value" "_law_by_value" (defArgs S_law_by_value) (defBody S_law_by_value) (defScope S_law_by_value) .none kVVa dcVa pmVa anVa cdVa ctVa), slVa⟩)
    (cVa : PySem.W.codeIn K cdVa "_law_by_value" = true)
    (kVa : PySem.W.keepIn K (.ref fVa) = true)
    (aWo : PySem.W.nsIn K mainGlobals "_law_by_word" = some (some (.ref fWo)))
    (lWo : K.lookup fWo = some ⟨ocWo, odWo, .func (PySem.W.fnOf "_law_by_word" "_law_by_word" (defArgs S_law_by_word) (defBody S_law_by_word) (defScope S_law_by_word) .none kVWo dcWo pmWo anWo cdWo ctWo), slWo⟩)
    (cWo : PySem.W.codeIn K cdWo "_law_by_word" = true)
    (kWo : PySem.W.keepIn K (.ref fWo) = true)
    (aAl : PySem.W.nsIn K mainGlobals "_law_all" = some (some (.ref fAl)))
    (lAl : K.lookup fAl = some ⟨ocAl, odAl, .func (PySem.W.fnOf "_law_all" "_law_all" (defArgs S_law_all) (defBody S_law_all) (defScope S_law_all) .none kVAl dcAl pmAl anAl cdAl ctAl), slAl⟩)
    (cAl : PySem.W.codeIn K cdAl "_law_all" = true)
    (kAl : PySem.W.keepIn K (.ref fAl) = true)
    (aKi : PySem.W.nsIn K mainGlobals "_law_kinds" = some (some (.ref fKi)))
    (lKi : K.lookup fKi = some ⟨ocKi, odKi, .func (PySem.W.fnOf "_law_kinds" "_law_kinds" (defArgs S_law_kinds) (defBody S_law_kinds) (defScope S_law_kinds) .none kVKi dcKi pmKi anKi cdKi ctKi), slKi⟩)
    (cKi : PySem.W.codeIn K cdKi "_law_kinds" = true)
    (kKi : PySem.W.keepIn K (.ref fKi) = true)
    (aLa : PySem.W.nsIn K mainGlobals "law" = some (some (.ref fLa)))
    (lLa : K.lookup fLa = some ⟨ocLa, odLa, .func (PySem.W.fnOf "law" "law" (defArgs S_law) (defBody S_law) (defScope S_law) .none kVLa dcLa pmLa anLa cdLa ctLa), slLa⟩)
    (cLa : PySem.W.codeIn K cdLa "law" = true)
    (kLa : PySem.W.keepIn K (.ref fLa) = true)
    (aF : PySem.W.nsIn K mainGlobals "FarError" = some (some (.ref far)))
    (cF : PySem.W.isClsIn K far = true)
    (tF : PySem.W.typeIn K (.ref far) = some (.type "type"))
    (aC0 : PySem.W.nsIn K mainGlobals "InvalidText" = some (some (.ref C0)))
    (lC0 : K.lookup C0 = some (excClassObj nm0 q0 C0 N0 bs0 [.ref far, .type "ValueError", .type "Exception", .type "BaseException", .type "object"] true sn0 sb0 ab0 co0 dd0 x0 y0 z0 u0 v0 "ValueError.__new__"))
    (sa0 : PySem.W.findIn K (.ref C0) "__setattr__" = some (some (.builtin "object.__setattr__")))
    (kC0 : PySem.W.keepIn K (.ref C0) = true)
    (ga0 : PySem.W.findIn K (.ref C0) "__getattribute__" = some (some (.builtin "BaseException.__getattribute__")))
    (gg0 : PySem.W.findIn K (.ref C0) "__getattr__" = some none)
    (ex0 : PySem.W.subIn K (.ref C0) (.type "BaseException") = some true)
    (ac0 : PySem.W.findIn K (.ref C0) "__class__" = some (some (.builtin "object.__class__")))
    (mo0 : PySem.W.mroIn K C0 (.type "object") = some true)
    (no0 : PySem.W.findIn K (.ref C0) "value" = some none)
    (iC0 : PySem.W.findIn K (.ref C0) "__init__" = some (some (.ref fE0)))
    (tI0 : PySem.W.isFn K (.ref fE0) = true)
    (lE0 : K.lookup fE0 = some ⟨ocE0, odE0, .func (PySem.W.fnOf "__init__" "InvalidText.__init__" (defArgs S_InvalidText___init__) (defBody S_InvalidText___init__) (defScope S_InvalidText___init__) .none kVE0 dcE0 pmE0 anE0 cdE0 ctE0), slE0⟩)
    (cE0 : PySem.W.codeIn K cdE0 "InvalidText.__init__" = true)
    (kE0 : PySem.W.keepIn K (.ref fE0) = true)
    (aC1 : PySem.W.nsIn K mainGlobals "InvalidSyntax" = some (some (.ref C1)))
    (lC1 : K.lookup C1 = some (excClassObj nm1 q1 C1 N1 bs1 [.ref far, .type "ValueError", .type "Exception", .type "BaseException", .type "object"] true sn1 sb1 ab1 co1 dd1 x1 y1 z1 u1 v1 "ValueError.__new__"))
    (sa1 : PySem.W.findIn K (.ref C1) "__setattr__" = some (some (.builtin "object.__setattr__")))
    (kC1 : PySem.W.keepIn K (.ref C1) = true)
    (ga1 : PySem.W.findIn K (.ref C1) "__getattribute__" = some (some (.builtin "BaseException.__getattribute__")))
    (gg1 : PySem.W.findIn K (.ref C1) "__getattr__" = some none)
    (ex1 : PySem.W.subIn K (.ref C1) (.type "BaseException") = some true)
    (ac1 : PySem.W.findIn K (.ref C1) "__class__" = some (some (.builtin "object.__class__")))
    (mo1 : PySem.W.mroIn K C1 (.type "object") = some true)
    (no1 : PySem.W.findIn K (.ref C1) "position" = some none)
    (iC1 : PySem.W.findIn K (.ref C1) "__init__" = some (some (.ref fE1)))
    (tI1 : PySem.W.isFn K (.ref fE1) = true)
    (lE1 : K.lookup fE1 = some ⟨ocE1, odE1, .func (PySem.W.fnOf "__init__" "InvalidSyntax.__init__" (defArgs S_InvalidSyntax___init__) (defBody S_InvalidSyntax___init__) (defScope S_InvalidSyntax___init__) .none kVE1 dcE1 pmE1 anE1 cdE1 ctE1), slE1⟩)
    (cE1 : PySem.W.codeIn K cdE1 "InvalidSyntax.__init__" = true)
    (kE1 : PySem.W.keepIn K (.ref fE1) = true)
    (aC2 : PySem.W.nsIn K mainGlobals "InvalidTree" = some (some (.ref C2)))
    (lC2 : K.lookup C2 = some (excClassObj nm2 q2 C2 N2 bs2 [.ref far, .type "ValueError", .type "Exception", .type "BaseException", .type "object"] true sn2 sb2 ab2 co2 dd2 x2 y2 z2 u2 v2 "ValueError.__new__"))
    (sa2 : PySem.W.findIn K (.ref C2) "__setattr__" = some (some (.builtin "object.__setattr__")))
    (kC2 : PySem.W.keepIn K (.ref C2) = true)
    (ga2 : PySem.W.findIn K (.ref C2) "__getattribute__" = some (some (.builtin "BaseException.__getattribute__")))
    (gg2 : PySem.W.findIn K (.ref C2) "__getattr__" = some none)
    (ex2 : PySem.W.subIn K (.ref C2) (.type "BaseException") = some true)
    (ac2 : PySem.W.findIn K (.ref C2) "__class__" = some (some (.builtin "object.__class__")))
    (mo2 : PySem.W.mroIn K C2 (.type "object") = some true)
    (no2 : PySem.W.findIn K (.ref C2) "value" = some none)
    (iC2 : PySem.W.findIn K (.ref C2) "__init__" = some (some (.ref fE2)))
    (tI2 : PySem.W.isFn K (.ref fE2) = true)
    (lE2 : K.lookup fE2 = some ⟨ocE2, odE2, .func (PySem.W.fnOf "__init__" "InvalidTree.__init__" (defArgs S_InvalidTree___init__) (defBody S_InvalidTree___init__) (defScope S_InvalidTree___init__) .none kVE2 dcE2 pmE2 anE2 cdE2 ctE2), slE2⟩)
    (cE2 : PySem.W.codeIn K cdE2 "InvalidTree.__init__" = true)
    (kE2 : PySem.W.keepIn K (.ref fE2) = true)
    (aC3 : PySem.W.nsIn K mainGlobals "DuplicateName" = some (some (.ref C3)))
    (lC3 : K.lookup C3 = some (excClassObj nm3 q3 C3 N3 bs3 [.ref far, .type "ValueError", .type "Exception", .type "BaseException", .type "object"] true sn3 sb3 ab3 co3 dd3 x3 y3 z3 u3 v3 "ValueError.__new__"))
    (sa3 : PySem.W.findIn K (.ref C3) "__setattr__" = some (some (.builtin "object.__setattr__")))
    (kC3 : PySem.W.keepIn K (.ref C3) = true)
    (ga3 : PySem.W.findIn K (.ref C3) "__getattribute__" = some (some (.builtin "BaseException.__getattribute__")))
    (gg3 : PySem.W.findIn K (.ref C3) "__getattr__" = some none)
    (ex3 : PySem.W.subIn K (.ref C3) (.type "BaseException") = some true)
    (ac3 : PySem.W.findIn K (.ref C3) "__class__" = some (some (.builtin "object.__class__")))
    (mo3 : PySem.W.mroIn K C3 (.type "object") = some true)
    (no3 : PySem.W.findIn K (.ref C3) "name" = some none)
    (iC3 : PySem.W.findIn K (.ref C3) "__init__" = some (some (.ref fE3)))
    (tI3 : PySem.W.isFn K (.ref fE3) = true)
    (lE3 : K.lookup fE3 = some ⟨ocE3, odE3, .func (PySem.W.fnOf "__init__" "DuplicateName.__init__" (defArgs S_DuplicateName___init__) (defBody S_DuplicateName___init__) (defScope S_DuplicateName___init__) .none kVE3 dcE3 pmE3 anE3 cdE3 ctE3), slE3⟩)
    (cE3 : PySem.W.codeIn K cdE3 "DuplicateName.__init__" = true)
    (kE3 : PySem.W.keepIn K (.ref fE3) = true)
    (aC4 : PySem.W.nsIn K mainGlobals "UnknownName" = some (some (.ref C4)))
    (lC4 : K.lookup C4 = some (excClassObj nm4 q4 C4 N4 bs4 [.ref far, .type "ValueError", .type "Exception", .type "BaseException", .type "object"] true sn4 sb4 ab4 co4 dd4 x4 y4 z4 u4 v4 "ValueError.__new__"))
    (sa4 : PySem.W.findIn K (.ref C4) "__setattr__" = some (some (.builtin "object.__setattr__")))
    (kC4 : PySem.W.keepIn K (.ref C4) = true)
    (ga4 : PySem.W.findIn K (.ref C4) "__getattribute__" = some (some (.builtin "BaseException.__getattribute__")))
    (gg4 : PySem.W.findIn K (.ref C4) "__getattr__" = some none)
    (ex4 : PySem.W.subIn K (.ref C4) (.type "BaseException") = some true)
    (ac4 : PySem.W.findIn K (.ref C4) "__class__" = some (some (.builtin "object.__class__")))
    (mo4 : PySem.W.mroIn K C4 (.type "object") = some true)
    (no4 : PySem.W.findIn K (.ref C4) "name" = some none)
    (iC4 : PySem.W.findIn K (.ref C4) "__init__" = some (some (.ref fE4)))
    (tI4 : PySem.W.isFn K (.ref fE4) = true)
    (lE4 : K.lookup fE4 = some ⟨ocE4, odE4, .func (PySem.W.fnOf "__init__" "UnknownName.__init__" (defArgs S_UnknownName___init__) (defBody S_UnknownName___init__) (defScope S_UnknownName___init__) .none kVE4 dcE4 pmE4 anE4 cdE4 ctE4), slE4⟩)
    (cE4 : PySem.W.codeIn K cdE4 "UnknownName.__init__" = true)
    (kE4 : PySem.W.keepIn K (.ref fE4) = true)
    (aC5 : PySem.W.nsIn K mainGlobals "TooLarge" = some (some (.ref C5)))
    (lC5 : K.lookup C5 = some (excClassObj nm5 q5 C5 N5 bs5 [.ref far, .type "ValueError", .type "Exception", .type "BaseException", .type "object"] true sn5 sb5 ab5 co5 dd5 x5 y5 z5 u5 v5 "ValueError.__new__"))
    (sa5 : PySem.W.findIn K (.ref C5) "__setattr__" = some (some (.builtin "object.__setattr__")))
    (kC5 : PySem.W.keepIn K (.ref C5) = true)
    (ga5 : PySem.W.findIn K (.ref C5) "__getattribute__" = some (some (.builtin "BaseException.__getattribute__")))
    (gg5 : PySem.W.findIn K (.ref C5) "__getattr__" = some none)
    (ex5 : PySem.W.subIn K (.ref C5) (.type "BaseException") = some true)
    (ac5 : PySem.W.findIn K (.ref C5) "__class__" = some (some (.builtin "object.__class__")))
    (mo5 : PySem.W.mroIn K C5 (.type "object") = some true)
    (no5 : PySem.W.findIn K (.ref C5) "word" = some none)
    (iC5 : PySem.W.findIn K (.ref C5) "__init__" = some (some (.ref fE5)))
    (tI5 : PySem.W.isFn K (.ref fE5) = true)
    (lE5 : K.lookup fE5 = some ⟨ocE5, odE5, .func (PySem.W.fnOf "__init__" "TooLarge.__init__" (defArgs S_TooLarge___init__) (defBody S_TooLarge___init__) (defScope S_TooLarge___init__) .none kVE5 dcE5 pmE5 anE5 cdE5 ctE5), slE5⟩)
    (cE5 : PySem.W.codeIn K cdE5 "TooLarge.__init__" = true)
    (kE5 : PySem.W.keepIn K (.ref fE5) = true)
    (aC6 : PySem.W.nsIn K mainGlobals "TooMany" = some (some (.ref C6)))
    (lC6 : K.lookup C6 = some (excClassObj nm6 q6 C6 N6 bs6 [.ref far, .type "ValueError", .type "Exception", .type "BaseException", .type "object"] true sn6 sb6 ab6 co6 dd6 x6 y6 z6 u6 v6 "ValueError.__new__"))
    (sa6 : PySem.W.findIn K (.ref C6) "__setattr__" = some (some (.builtin "object.__setattr__")))
    (kC6 : PySem.W.keepIn K (.ref C6) = true)
    (ga6 : PySem.W.findIn K (.ref C6) "__getattribute__" = some (some (.builtin "BaseException.__getattribute__")))
    (gg6 : PySem.W.findIn K (.ref C6) "__getattr__" = some none)
    (ex6 : PySem.W.subIn K (.ref C6) (.type "BaseException") = some true)
    (ac6 : PySem.W.findIn K (.ref C6) "__class__" = some (some (.builtin "object.__class__")))
    (mo6 : PySem.W.mroIn K C6 (.type "object") = some true)
    (no6 : PySem.W.findIn K (.ref C6) "word" = some none)
    (iC6 : PySem.W.findIn K (.ref C6) "__init__" = some (some (.ref fE6)))
    (tI6 : PySem.W.isFn K (.ref fE6) = true)
    (lE6 : K.lookup fE6 = some ⟨ocE6, odE6, .func (PySem.W.fnOf "__init__" "TooMany.__init__" (defArgs S_TooMany___init__) (defBody S_TooMany___init__) (defScope S_TooMany___init__) .none kVE6 dcE6 pmE6 anE6 cdE6 ctE6), slE6⟩)
    (cE6 : PySem.W.codeIn K cdE6 "TooMany.__init__" = true)
    (kE6 : PySem.W.keepIn K (.ref fE6) = true)
    (aC7 : PySem.W.nsIn K mainGlobals "InvalidNumber" = some (some (.ref C7)))
    (lC7 : K.lookup C7 = some (excClassObj nm7 q7 C7 N7 bs7 [.ref far, .type "ValueError", .type "Exception", .type "BaseException", .type "object"] true sn7 sb7 ab7 co7 dd7 x7 y7 z7 u7 v7 "ValueError.__new__"))
    (sa7 : PySem.W.findIn K (.ref C7) "__setattr__" = some (some (.builtin "object.__setattr__")))
    (kC7 : PySem.W.keepIn K (.ref C7) = true)
    (ga7 : PySem.W.findIn K (.ref C7) "__getattribute__" = some (some (.builtin "BaseException.__getattribute__")))
    (gg7 : PySem.W.findIn K (.ref C7) "__getattr__" = some none)
    (ex7 : PySem.W.subIn K (.ref C7) (.type "BaseException") = some true)
    (ac7 : PySem.W.findIn K (.ref C7) "__class__" = some (some (.builtin "object.__class__")))
    (mo7 : PySem.W.mroIn K C7 (.type "object") = some true)
    (no7 : PySem.W.findIn K (.ref C7) "value" = some none)
    (iC7 : PySem.W.findIn K (.ref C7) "__init__" = some (some (.ref fE7)))
    (tI7 : PySem.W.isFn K (.ref fE7) = true)
    (lE7 : K.lookup fE7 = some ⟨ocE7, odE7, .func (PySem.W.fnOf "__init__" "InvalidNumber.__init__" (defArgs S_InvalidNumber___init__) (defBody S_InvalidNumber___init__) (defScope S_InvalidNumber___init__) .none kVE7 dcE7 pmE7 anE7 cdE7 ctE7), slE7⟩)
    (cE7 : PySem.W.codeIn K cdE7 "InvalidNumber.__init__" = true)
    (kE7 : PySem.W.keepIn K (.ref fE7) = true)
    (aC8 : PySem.W.nsIn K mainGlobals "InvalidCache" = some (some (.ref C8)))
    (lC8 : K.lookup C8 = some (excClassObj nm8 q8 C8 N8 bs8 [.ref far, .type "ValueError", .type "Exception", .type "BaseException", .type "object"] true sn8 sb8 ab8 co8 dd8 x8 y8 z8 u8 v8 "ValueError.__new__"))
    (sa8 : PySem.W.findIn K (.ref C8) "__setattr__" = some (some (.builtin "object.__setattr__")))
    (kC8 : PySem.W.keepIn K (.ref C8) = true)
    (ga8 : PySem.W.findIn K (.ref C8) "__getattribute__" = some (some (.builtin "BaseException.__getattribute__")))
    (gg8 : PySem.W.findIn K (.ref C8) "__getattr__" = some none)
    (ex8 : PySem.W.subIn K (.ref C8) (.type "BaseException") = some true)
    (ac8 : PySem.W.findIn K (.ref C8) "__class__" = some (some (.builtin "object.__class__")))
    (mo8 : PySem.W.mroIn K C8 (.type "object") = some true)
    (no8 : PySem.W.findIn K (.ref C8) "value" = some none)
    (iC8 : PySem.W.findIn K (.ref C8) "__init__" = some (some (.ref fE8)))
    (tI8 : PySem.W.isFn K (.ref fE8) = true)
    (lE8 : K.lookup fE8 = some ⟨ocE8, odE8, .func (PySem.W.fnOf "__init__" "InvalidCache.__init__" (defArgs S_InvalidCache___init__) (defBody S_InvalidCache___init__) (defScope S_InvalidCache___init__) .none kVE8 dcE8 pmE8 anE8 cdE8 ctE8), slE8⟩)
    (cE8 : PySem.W.codeIn K cdE8 "InvalidCache.__init__" = true)
    (kE8 : PySem.W.keepIn K (.ref fE8) = true)
    (aC9 : PySem.W.nsIn K mainGlobals "OutOfRange" = some (some (.ref C9)))
    (lC9 : K.lookup C9 = some (excClassObj nm9 q9 C9 N9 bs9 [.ref far, .type "ValueError", .type "Exception", .type "BaseException", .type "object"] true sn9 sb9 ab9 co9 dd9 x9 y9 z9 u9 v9 "ValueError.__new__"))
    (sa9 : PySem.W.findIn K (.ref C9) "__setattr__" = some (some (.builtin "object.__setattr__")))
    (kC9 : PySem.W.keepIn K (.ref C9) = true)
    (ga9 : PySem.W.findIn K (.ref C9) "__getattribute__" = some (some (.builtin "BaseException.__getattribute__")))
    (gg9 : PySem.W.findIn K (.ref C9) "__getattr__" = some none)
    (ex9 : PySem.W.subIn K (.ref C9) (.type "BaseException") = some true)
    (ac9 : PySem.W.findIn K (.ref C9) "__class__" = some (some (.builtin "object.__class__")))
    (mo9 : PySem.W.mroIn K C9 (.type "object") = some true)
    (no9 : PySem.W.findIn K (.ref C9) "access" = some none)
    (iC9 : PySem.W.findIn K (.ref C9) "__init__" = some (some (.ref fE9)))
    (tI9 : PySem.W.isFn K (.ref fE9) = true)
    (lE9 : K.lookup fE9 = some ⟨ocE9, odE9, .func (PySem.W.fnOf "__init__" "OutOfRange.__init__" (defArgs S_OutOfRange___init__) (defBody S_OutOfRange___init__) (defScope S_OutOfRange___init__) .none kVE9 dcE9 pmE9 anE9 cdE9 ctE9), slE9⟩)
    (cE9 : PySem.W.codeIn K cdE9 "OutOfRange.__init__" = true)
    (kE9 : PySem.W.keepIn K (.ref fE9) = true)
    (aC10 : PySem.W.nsIn K mainGlobals "InvalidOrder" = some (some (.ref C10)))
    (lC10 : K.lookup C10 = some (excClassObj nm10 q10 C10 N10 bs10 [.ref far, .type "ValueError", .type "Exception", .type "BaseException", .type "object"] true sn10 sb10 ab10 co10 dd10 x10 y10 z10 u10 v10 "ValueError.__new__"))
    (sa10 : PySem.W.findIn K (.ref C10) "__setattr__" = some (some (.builtin "object.__setattr__")))
    (kC10 : PySem.W.keepIn K (.ref C10) = true)
    (ga10 : PySem.W.findIn K (.ref C10) "__getattribute__" = some (some (.builtin "BaseException.__getattribute__")))
    (gg10 : PySem.W.findIn K (.ref C10) "__getattr__" = some none)
    (ex10 : PySem.W.subIn K (.ref C10) (.type "BaseException") = some true)
    (ac10 : PySem.W.findIn K (.ref C10) "__class__" = some (some (.builtin "object.__class__")))
    (mo10 : PySem.W.mroIn K C10 (.type "object") = some true)
    (no10 : PySem.W.findIn K (.ref C10) "value" = some none)
    (iC10 : PySem.W.findIn K (.ref C10) "__init__" = some (some (.ref fE10)))
    (tI10 : PySem.W.isFn K (.ref fE10) = true)
    (lE10 : K.lookup fE10 = some ⟨ocE10, odE10, .func (PySem.W.fnOf "__init__" "InvalidOrder.__init__" (defArgs S_InvalidOrder___init__) (defBody S_InvalidOrder___init__) (defScope S_InvalidOrder___init__) .none kVE10 dcE10 pmE10 anE10 cdE10 ctE10), slE10⟩)
    (cE10 : PySem.W.codeIn K cdE10 "InvalidOrder.__init__" = true)
    (kE10 : PySem.W.keepIn K (.ref fE10) = true)
    (aC11 : PySem.W.nsIn K mainGlobals "InvalidBlocks" = some (some (.ref C11)))
    (lC11 : K.lookup C11 = some (excClassObj nm11 q11 C11 N11 bs11 [.ref far, .type "ValueError", .type "Exception", .type "BaseException", .type "object"] true sn11 sb11 ab11 co11 dd11 x11 y11 z11 u11 v11 "ValueError.__new__"))
    (sa11 : PySem.W.findIn K (.ref C11) "__setattr__" = some (some (.builtin "object.__setattr__")))
    (kC11 : PySem.W.keepIn K (.ref C11) = true)
    (ga11 : PySem.W.findIn K (.ref C11) "__getattribute__" = some (some (.builtin "BaseException.__getattribute__")))
    (gg11 : PySem.W.findIn K (.ref C11) "__getattr__" = some none)
    (ex11 : PySem.W.subIn K (.ref C11) (.type "BaseException") = some true)
    (ac11 : PySem.W.findIn K (.ref C11) "__class__" = some (some (.builtin "object.__class__")))
    (mo11 : PySem.W.mroIn K C11 (.type "object") = some true)
    (no11 : PySem.W.findIn K (.ref C11) "value" = some none)
    (iC11 : PySem.W.findIn K (.ref C11) "__init__" = some (some (.ref fE11)))
    (tI11 : PySem.W.isFn K (.ref fE11) = true)
    (lE11 : K.lookup fE11 = some ⟨ocE11, odE11, .func (PySem.W.fnOf "__init__" "InvalidBlocks.__init__" (defArgs S_InvalidBlocks___init__) (defBody S_InvalidBlocks___init__) (defScope S_InvalidBlocks___init__) .none kVE11 dcE11 pmE11 anE11 cdE11 ctE11), slE11⟩)
    (cE11 : PySem.W.codeIn K cdE11 "InvalidBlocks.__init__" = true)
    (kE11 : PySem.W.keepIn K (.ref fE11) = true)
    (aC12 : PySem.W.nsIn K mainGlobals "Uneven" = some (some (.ref C12)))
    (lC12 : K.lookup C12 = some (excClassObj nm12 q12 C12 N12 bs12 [.ref far, .type "ValueError", .type "Exception", .type "BaseException", .type "object"] true sn12 sb12 ab12 co12 dd12 x12 y12 z12 u12 v12 "ValueError.__new__"))
    (sa12 : PySem.W.findIn K (.ref C12) "__setattr__" = some (some (.builtin "object.__setattr__")))
    (kC12 : PySem.W.keepIn K (.ref C12) = true)
    (ga12 : PySem.W.findIn K (.ref C12) "__getattribute__" = some (some (.builtin "BaseException.__getattribute__")))
    (gg12 : PySem.W.findIn K (.ref C12) "__getattr__" = some none)
    (ex12 : PySem.W.subIn K (.ref C12) (.type "BaseException") = some true)
    (ac12 : PySem.W.findIn K (.ref C12) "__class__" = some (some (.builtin "object.__class__")))
    (mo12 : PySem.W.mroIn K C12 (.type "object") = some true)
    (no12 : PySem.W.findIn K (.ref C12) "name" = some none)
    (iC12 : PySem.W.findIn K (.ref C12) "__init__" = some (some (.ref fE12)))
    (tI12 : PySem.W.isFn K (.ref fE12) = true)
    (lE12 : K.lookup fE12 = some ⟨ocE12, odE12, .func (PySem.W.fnOf "__init__" "Uneven.__init__" (defArgs S_Uneven___init__) (defBody S_Uneven___init__) (defScope S_Uneven___init__) .none kVE12 dcE12 pmE12 anE12 cdE12 ctE12), slE12⟩)
    (cE12 : PySem.W.codeIn K cdE12 "Uneven.__init__" = true)
    (kE12 : PySem.W.keepIn K (.ref fE12) = true)
    (aC13 : PySem.W.nsIn K mainGlobals "InvalidWeights" = some (some (.ref C13)))
    (lC13 : K.lookup C13 = some (excClassObj nm13 q13 C13 N13 bs13 [.ref far, .type "ValueError", .type "Exception", .type "BaseException", .type "object"] true sn13 sb13 ab13 co13 dd13 x13 y13 z13 u13 v13 "ValueError.__new__"))
    (sa13 : PySem.W.findIn K (.ref C13) "__setattr__" = some (some (.builtin "object.__setattr__")))
    (kC13 : PySem.W.keepIn K (.ref C13) = true)
    (ga13 : PySem.W.findIn K (.ref C13) "__getattribute__" = some (some (.builtin "BaseException.__getattribute__")))
    (gg13 : PySem.W.findIn K (.ref C13) "__getattr__" = some none)
    (ex13 : PySem.W.subIn K (.ref C13) (.type "BaseException") = some true)
    (ac13 : PySem.W.findIn K (.ref C13) "__class__" = some (some (.builtin "object.__class__")))
    (mo13 : PySem.W.mroIn K C13 (.type "object") = some true)
    (no13 : PySem.W.findIn K (.ref C13) "value" = some none)
    (iC13 : PySem.W.findIn K (.ref C13) "__init__" = some (some (.ref fE13)))
    (tI13 : PySem.W.isFn K (.ref fE13) = true)
    (lE13 : K.lookup fE13 = some ⟨ocE13, odE13, .func (PySem.W.fnOf "__init__" "InvalidWeights.__init__" (defArgs S_InvalidWeights___init__) (defBody S_InvalidWeights___init__) (defScope S_InvalidWeights___init__) .none kVE13 dcE13 pmE13 anE13 cdE13 ctE13), slE13⟩)
    (cE13 : PySem.W.codeIn K cdE13 "InvalidWeights.__init__" = true)
    (kE13 : PySem.W.keepIn K (.ref fE13) = true)
    (aC14 : PySem.W.nsIn K mainGlobals "InvalidEvent" = some (some (.ref C14)))
    (lC14 : K.lookup C14 = some (excClassObj nm14 q14 C14 N14 bs14 [.ref far, .type "ValueError", .type "Exception", .type "BaseException", .type "object"] true sn14 sb14 ab14 co14 dd14 x14 y14 z14 u14 v14 "ValueError.__new__"))
    (sa14 : PySem.W.findIn K (.ref C14) "__setattr__" = some (some (.builtin "object.__setattr__")))
    (kC14 : PySem.W.keepIn K (.ref C14) = true)
    (ga14 : PySem.W.findIn K (.ref C14) "__getattribute__" = some (some (.builtin "BaseException.__getattribute__")))
    (gg14 : PySem.W.findIn K (.ref C14) "__getattr__" = some none)
    (ex14 : PySem.W.subIn K (.ref C14) (.type "BaseException") = some true)
    (ac14 : PySem.W.findIn K (.ref C14) "__class__" = some (some (.builtin "object.__class__")))
    (mo14 : PySem.W.mroIn K C14 (.type "object") = some true)
    (no14 : PySem.W.findIn K (.ref C14) "value" = some none)
    (iC14 : PySem.W.findIn K (.ref C14) "__init__" = some (some (.ref fE14)))
    (tI14 : PySem.W.isFn K (.ref fE14) = true)
    (lE14 : K.lookup fE14 = some ⟨ocE14, odE14, .func (PySem.W.fnOf "__init__" "InvalidEvent.__init__" (defArgs S_InvalidEvent___init__) (defBody S_InvalidEvent___init__) (defScope S_InvalidEvent___init__) .none kVE14 dcE14 pmE14 anE14 cdE14 ctE14), slE14⟩)
    (cE14 : PySem.W.codeIn K cdE14 "InvalidEvent.__init__" = true)
    (kE14 : PySem.W.keepIn K (.ref fE14) = true)
    (aC15 : PySem.W.nsIn K mainGlobals "InvalidQuestion" = some (some (.ref C15)))
    (lC15 : K.lookup C15 = some (excClassObj nm15 q15 C15 N15 bs15 [.ref far, .type "ValueError", .type "Exception", .type "BaseException", .type "object"] true sn15 sb15 ab15 co15 dd15 x15 y15 z15 u15 v15 "ValueError.__new__"))
    (sa15 : PySem.W.findIn K (.ref C15) "__setattr__" = some (some (.builtin "object.__setattr__")))
    (kC15 : PySem.W.keepIn K (.ref C15) = true)
    (ga15 : PySem.W.findIn K (.ref C15) "__getattribute__" = some (some (.builtin "BaseException.__getattribute__")))
    (gg15 : PySem.W.findIn K (.ref C15) "__getattr__" = some none)
    (ex15 : PySem.W.subIn K (.ref C15) (.type "BaseException") = some true)
    (ac15 : PySem.W.findIn K (.ref C15) "__class__" = some (some (.builtin "object.__class__")))
    (mo15 : PySem.W.mroIn K C15 (.type "object") = some true)
    (no15 : PySem.W.findIn K (.ref C15) "position" = some none)
    (iC15 : PySem.W.findIn K (.ref C15) "__init__" = some (some (.ref fE15)))
    (tI15 : PySem.W.isFn K (.ref fE15) = true)
    (lE15 : K.lookup fE15 = some ⟨ocE15, odE15, .func (PySem.W.fnOf "__init__" "InvalidQuestion.__init__" (defArgs S_InvalidQuestion___init__) (defBody S_InvalidQuestion___init__) (defScope S_InvalidQuestion___init__) .none kVE15 dcE15 pmE15 anE15 cdE15 ctE15), slE15⟩)
    (cE15 : PySem.W.codeIn K cdE15 "InvalidQuestion.__init__" = true)
    (kE15 : PySem.W.keepIn K (.ref fE15) = true)
    (aC16 : PySem.W.nsIn K mainGlobals "InvalidCommand" = some (some (.ref C16)))
    (lC16 : K.lookup C16 = some (excClassObj nm16 q16 C16 N16 bs16 [.ref far, .type "ValueError", .type "Exception", .type "BaseException", .type "object"] true sn16 sb16 ab16 co16 dd16 x16 y16 z16 u16 v16 "ValueError.__new__"))
    (sa16 : PySem.W.findIn K (.ref C16) "__setattr__" = some (some (.builtin "object.__setattr__")))
    (kC16 : PySem.W.keepIn K (.ref C16) = true)
    (ga16 : PySem.W.findIn K (.ref C16) "__getattribute__" = some (some (.builtin "BaseException.__getattribute__")))
    (gg16 : PySem.W.findIn K (.ref C16) "__getattr__" = some none)
    (ex16 : PySem.W.subIn K (.ref C16) (.type "BaseException") = some true)
    (ac16 : PySem.W.findIn K (.ref C16) "__class__" = some (some (.builtin "object.__class__")))
    (mo16 : PySem.W.mroIn K C16 (.type "object") = some true)
    (no16 : PySem.W.findIn K (.ref C16) "word" = some none)
    (iC16 : PySem.W.findIn K (.ref C16) "__init__" = some (some (.ref fE16)))
    (tI16 : PySem.W.isFn K (.ref fE16) = true)
    (lE16 : K.lookup fE16 = some ⟨ocE16, odE16, .func (PySem.W.fnOf "__init__" "InvalidCommand.__init__" (defArgs S_InvalidCommand___init__) (defBody S_InvalidCommand___init__) (defScope S_InvalidCommand___init__) .none kVE16 dcE16 pmE16 anE16 cdE16 ctE16), slE16⟩)
    (cE16 : PySem.W.codeIn K cdE16 "InvalidCommand.__init__" = true)
    (kE16 : PySem.W.keepIn K (.ref fE16) = true)
    (aC17 : PySem.W.nsIn K mainGlobals "LimitExceeded" = some (some (.ref C17)))
    (lC17 : K.lookup C17 = some (excClassObj nm17 q17 C17 N17 bs17 [.type "RuntimeError", .type "Exception", .type "BaseException", .type "object"] true sn17 sb17 ab17 co17 dd17 x17 y17 z17 u17 v17 "RuntimeError.__new__"))
    (sa17 : PySem.W.findIn K (.ref C17) "__setattr__" = some (some (.builtin "object.__setattr__")))
    (kC17 : PySem.W.keepIn K (.ref C17) = true)
    (ga17 : PySem.W.findIn K (.ref C17) "__getattribute__" = some (some (.builtin "BaseException.__getattribute__")))
    (gg17 : PySem.W.findIn K (.ref C17) "__getattr__" = some none)
    (ex17 : PySem.W.subIn K (.ref C17) (.type "BaseException") = some true)
    (ac17 : PySem.W.findIn K (.ref C17) "__class__" = some (some (.builtin "object.__class__")))
    (mo17 : PySem.W.mroIn K C17 (.type "object") = some true)
    (no17 : PySem.W.findIn K (.ref C17) "word" = some none)
    (iC17 : PySem.W.findIn K (.ref C17) "__init__" = some (some (.ref fE17)))
    (tI17 : PySem.W.isFn K (.ref fE17) = true)
    (lE17 : K.lookup fE17 = some ⟨ocE17, odE17, .func (PySem.W.fnOf "__init__" "LimitExceeded.__init__" (defArgs S_LimitExceeded___init__) (defBody S_LimitExceeded___init__) (defScope S_LimitExceeded___init__) .none kVE17 dcE17 pmE17 anE17 cdE17 ctE17), slE17⟩)
    (cE17 : PySem.W.codeIn K cdE17 "LimitExceeded.__init__" = true)
    (kE17 : PySem.W.keepIn K (.ref fE17) = true)
    (an : PySem.W.specialIn K (.builtin "object.__class__") "__get__" = some (some (.builtin "getset_descriptor.__get__")))
    (tk : PySem.W.takesIn K (.builtin "object.__class__") = some true)
    (z_len : PySem.W.nsIn K mainGlobals "len" = some none)
    (z_int : PySem.W.nsIn K mainGlobals "int" = some none)
    (z_abs : PySem.W.nsIn K mainGlobals "abs" = some none)
    (z_repr : PySem.W.nsIn K mainGlobals "repr" = some none)
    (z_enumerate : PySem.W.nsIn K mainGlobals "enumerate" = some none)
    (z_range : PySem.W.nsIn K mainGlobals "range" = some none)
    (z_isinstance : PySem.W.nsIn K mainGlobals "isinstance" = some none)
    (z_ValueError : PySem.W.nsIn K mainGlobals "ValueError" = some none)
    (z_RuntimeError : PySem.W.nsIn K mainGlobals "RuntimeError" = some none)
    (nd : ∀ i, i < 18 → ∀ j, j < 18 → (fun i : Nat => ([C0, C1, C2, C3, C4, C5, C6, C7, C8, C9, C10, C11, C12, C13, C14, C15, C16, C17] : List Addr).getD i 0) i = (fun i : Nat => ([C0, C1, C2, C3, C4, C5, C6, C7, C8, C9, C10, C11, C12, C13, C14, C15, C16, C17] : List Addr).getD i 0) j → i = j)
    (nf : ∀ i, i < 18 → (fun i : Nat => ([C0, C1, C2, C3, C4, C5, C6, C7, C8, C9, C10, C11, C12, C13, C14, C15, C16, C17] : List Addr).getD i 0) i ≠ far) :
    ∃ fd : FuncData, (∀ (s : Shared) (v : Value), BindsTo s fd ⟨[v], []⟩ [("_law_script", v)]) ∧ ∀ base : Heap, K.In base → base.Ns mainGlobals mg → RunG l.prog w K mg base CX0 4 fa fd ["_law_script"] (spLaw K) := by
  have e := hfa.symm.trans (PySem.W.mg_of X G aLa)
  cases e
  have FPl := fun_mk (x := "_law_pool") (qual := "_law_pool") (st := S_law_pool) lPl cPl kPl
  have bPl := FPl.binds (ps := ["_law_script", "_law_k"]) fun _ _ _ _ _ _ us hl => match us, hl with | [_, _], _ => rfl
  have FTk := fun_mk (x := "_law_take") (qual := "_law_take") (st := S_law_take) lTk cTk kTk
  have bTk := FTk.binds (ps := ["_law_pool_here", "_law_wide"]) fun _ _ _ _ _ _ us hl => match us, hl with | [_, _], _ => rfl
  have FVa := fun_mk (x := "_law_by_value") (qual := "_law_by_value") (st := S_law_by_value) lVa cVa kVa
  have bVa := FVa.binds (ps := ["_law_thing"]) fun _ _ _ _ _ _ us hl => match us, hl with | [_], _ => rfl
  have FWo := fun_mk (x := "_law_by_word") (qual := "_law_by_word") (st := S_law_by_word) lWo cWo kWo
  have bWo := FWo.binds (ps := ["_law_thing"]) fun _ _ _ _ _ _ us hl => match us, hl with | [_], _ => rfl
  have FAl := fun_mk (x := "_law_all") (qual := "_law_all") (st := S_law_all) lAl cAl kAl
  have bAl := FAl.binds (ps := []) fun _ _ _ _ _ _ us hl => match us, hl with | [], _ => rfl
  have FKi := fun_mk (x := "_law_kinds") (qual := "_law_kinds") (st := S_law_kinds) lKi cKi kKi
  have bKi := FKi.binds (ps := ["_law_error"]) fun _ _ _ _ _ _ us hl => match us, hl with | [_], _ => rfl
  have FLa := fun_mk (x := "law") (qual := "law") (st := S_law) lLa cLa kLa
  have bLa := FLa.binds (ps := ["_law_script"]) fun _ _ _ _ _ _ us hl => match us, hl with | [_], _ => rfl
  have M0 := mroC_of lC0
  have T0 := oxC_ve lC0 sa0 kC0 ga0 gg0 ex0 ac0 an tk mo0
  have FE0 := fun_mk (x := "__init__") (qual := "InvalidText.__init__") (st := S_InvalidText___init__) lE0 cE0 kE0
  have M1 := mroC_of lC1
  have T1 := oxC_ve lC1 sa1 kC1 ga1 gg1 ex1 ac1 an tk mo1
  have FE1 := fun_mk (x := "__init__") (qual := "InvalidSyntax.__init__") (st := S_InvalidSyntax___init__) lE1 cE1 kE1
  have M2 := mroC_of lC2
  have T2 := oxC_ve lC2 sa2 kC2 ga2 gg2 ex2 ac2 an tk mo2
  have FE2 := fun_mk (x := "__init__") (qual := "InvalidTree.__init__") (st := S_InvalidTree___init__) lE2 cE2 kE2
  have M3 := mroC_of lC3
  have T3 := oxC_ve lC3 sa3 kC3 ga3 gg3 ex3 ac3 an tk mo3
  have FE3 := fun_mk (x := "__init__") (qual := "DuplicateName.__init__") (st := S_DuplicateName___init__) lE3 cE3 kE3
  have M4 := mroC_of lC4
  have T4 := oxC_ve lC4 sa4 kC4 ga4 gg4 ex4 ac4 an tk mo4
  have FE4 := fun_mk (x := "__init__") (qual := "UnknownName.__init__") (st := S_UnknownName___init__) lE4 cE4 kE4
  have M5 := mroC_of lC5
  have T5 := oxC_ve lC5 sa5 kC5 ga5 gg5 ex5 ac5 an tk mo5
  have FE5 := fun_mk (x := "__init__") (qual := "TooLarge.__init__") (st := S_TooLarge___init__) lE5 cE5 kE5
  have M6 := mroC_of lC6
  have T6 := oxC_ve lC6 sa6 kC6 ga6 gg6 ex6 ac6 an tk mo6
  have FE6 := fun_mk (x := "__init__") (qual := "TooMany.__init__") (st := S_TooMany___init__) lE6 cE6 kE6
  have M7 := mroC_of lC7
  have T7 := oxC_ve lC7 sa7 kC7 ga7 gg7 ex7 ac7 an tk mo7
  have FE7 := fun_mk (x := "__init__") (qual := "InvalidNumber.__init__") (st := S_InvalidNumber___init__) lE7 cE7 kE7
  have M8 := mroC_of lC8
  have T8 := oxC_ve lC8 sa8 kC8 ga8 gg8 ex8 ac8 an tk mo8
  have FE8 := fun_mk (x := "__init__") (qual := "InvalidCache.__init__") (st := S_InvalidCache___init__) lE8 cE8 kE8
  have M9 := mroC_of lC9
  have T9 := oxC_ve lC9 sa9 kC9 ga9 gg9 ex9 ac9 an tk mo9
  have FE9 := fun_mk (x := "__init__") (qual := "OutOfRange.__init__") (st := S_OutOfRange___init__) lE9 cE9 kE9
  have M10 := mroC_of lC10
  have T10 := oxC_ve lC10 sa10 kC10 ga10 gg10 ex10 ac10 an tk mo10
  have FE10 := fun_mk (x := "__init__") (qual := "InvalidOrder.__init__") (st := S_InvalidOrder___init__) lE10 cE10 kE10
  have M11 := mroC_of lC11
  have T11 := oxC_ve lC11 sa11 kC11 ga11 gg11 ex11 ac11 an tk mo11
  have FE11 := fun_mk (x := "__init__") (qual := "InvalidBlocks.__init__") (st := S_InvalidBlocks___init__) lE11 cE11 kE11
  have M12 := mroC_of lC12
  have T12 := oxC_ve lC12 sa12 kC12 ga12 gg12 ex12 ac12 an tk mo12
  have FE12 := fun_mk (x := "__init__") (qual := "Uneven.__init__") (st := S_Uneven___init__) lE12 cE12 kE12
  have M13 := mroC_of lC13
  have T13 := oxC_ve lC13 sa13 kC13 ga13 gg13 ex13 ac13 an tk mo13
  have FE13 := fun_mk (x := "__init__") (qual := "InvalidWeights.__init__") (st := S_InvalidWeights___init__) lE13 cE13 kE13
  have M14 := mroC_of lC14
  have T14 := oxC_ve lC14 sa14 kC14 ga14 gg14 ex14 ac14 an tk mo14
  have FE14 := fun_mk (x := "__init__") (qual := "InvalidEvent.__init__") (st := S_InvalidEvent___init__) lE14 cE14 kE14
  have M15 := mroC_of lC15
  have T15 := oxC_ve lC15 sa15 kC15 ga15 gg15 ex15 ac15 an tk mo15
  have FE15 := fun_mk (x := "__init__") (qual := "InvalidQuestion.__init__") (st := S_InvalidQuestion___init__) lE15 cE15 kE15
  have M16 := mroC_of lC16
  have T16 := oxC_ve lC16 sa16 kC16 ga16 gg16 ex16 ac16 an tk mo16
  have FE16 := fun_mk (x := "__init__") (qual := "InvalidCommand.__init__") (st := S_InvalidCommand___init__) lE16 cE16 kE16
  have M17 := mroC_of lC17
  have T17 := oxC_re lC17 sa17 kC17 ga17 gg17 ex17 ac17 an tk mo17
  have FE17 := fun_mk (x := "__init__") (qual := "LimitExceeded.__init__") (st := S_LimitExceeded___init__) lE17 cE17 kE17
  have MM : ∀ i, i < 18 → MroC K ((fun i : Nat => ([C0, C1, C2, C3, C4, C5, C6, C7, C8, C9, C10, C11, C12, C13, C14, C15, C16, C17] : List Addr).getD i 0) i) (if i = 17 then reM else veM far) := fun i hi => by
    match i, hi with
    | 0, _ => exact M0
    | 1, _ => exact M1
    | 2, _ => exact M2
    | 3, _ => exact M3
    | 4, _ => exact M4
    | 5, _ => exact M5
    | 6, _ => exact M6
    | 7, _ => exact M7
    | 8, _ => exact M8
    | 9, _ => exact M9
    | 10, _ => exact M10
    | 11, _ => exact M11
    | 12, _ => exact M12
    | 13, _ => exact M13
    | 14, _ => exact M14
    | 15, _ => exact M15
    | 16, _ => exact M16
    | 17, _ => exact M17
    | i + 18, hi => exact absurd hi (by omega)
  have MV : ∀ i, i < 17 → MroC K ((fun i : Nat => ([C0, C1, C2, C3, C4, C5, C6, C7, C8, C9, C10, C11, C12, C13, C14, C15, C16, C17] : List Addr).getD i 0) i) (veM far) := fun i hi => by
    have z := MM i (by omega)
    rw [if_neg (by omega)] at z
    exact z
  have ER : ∀ base : Heap, Errs l.prog w K mg base (fun i : Nat => ([C0, C1, C2, C3, C4, C5, C6, C7, C8, C9, C10, C11, C12, C13, C14, C15, C16, C17] : List Addr).getD i 0) far := fun base => {
    e0 := err_InvalidText T0 no0 (PySem.W.mg_of X G aC0) iC0 tI0 FE0
    e1 := err_InvalidSyntax T1 no1 (PySem.W.mg_of X G aC1) iC1 tI1 FE1
    e2 := err_InvalidTree T2 no2 (PySem.W.mg_of X G aC2) iC2 tI2 FE2
    e3 := err_DuplicateName T3 no3 (PySem.W.mg_of X G aC3) iC3 tI3 FE3
    e4 := err_UnknownName T4 no4 (PySem.W.mg_of X G aC4) iC4 tI4 FE4
    e5 := err_TooLarge T5 no5 (PySem.W.mg_of X G aC5) iC5 tI5 FE5
    e6 := err_TooMany T6 no6 (PySem.W.mg_of X G aC6) iC6 tI6 FE6
    e7 := err_InvalidNumber T7 no7 (PySem.W.mg_of X G aC7) iC7 tI7 FE7
    e8 := err_InvalidCache T8 no8 (PySem.W.mg_of X G aC8) iC8 tI8 FE8
    e9 := err_OutOfRange T9 no9 (PySem.W.mg_of X G aC9) iC9 tI9 FE9
    e10 := err_InvalidOrder T10 no10 (PySem.W.mg_of X G aC10) iC10 tI10 FE10
    e11 := err_InvalidBlocks T11 no11 (PySem.W.mg_of X G aC11) iC11 tI11 FE11
    e12 := err_Uneven T12 no12 (PySem.W.mg_of X G aC12) iC12 tI12 FE12
    e13 := err_InvalidWeights T13 no13 (PySem.W.mg_of X G aC13) iC13 tI13 FE13
    e14 := err_InvalidEvent T14 no14 (PySem.W.mg_of X G aC14) iC14 tI14 FE14
    e15 := err_InvalidQuestion T15 no15 (PySem.W.mg_of X G aC15) iC15 tI15 FE15
    e16 := err_InvalidCommand T16 no16 (PySem.W.mg_of X G aC16) iC16 tI16 FE16
    e17 := err_LimitExceeded T17 no17 (PySem.W.mg_of X G aC17) iC17 tI17 FE17
    mF := PySem.W.mg_of X G aF
    is := fun i j hi hj => by
      by_cases e : i = j
      · subst e
        rw [decide_eq_true rfl]
        unfold PySem.W.kitOne
        rw [if_pos (beq_self_eq_true _)]
      · rw [decide_eq_false e]
        refine (MM i hi).own (MM j (by omega)).s (MM j (by omega)).t (fun z => e (nd i hi j (by omega) z)) ?_
        by_cases e7 : i = 17
        · rw [if_pos e7]
          rfl
        · rw [if_neg e7]
          exact far_only (nf j (by omega))
    isF := fun i hi => (MV i hi).own cF tF (nf i (by omega)) (by rw [List.contains_cons, beq_self_eq_true, Bool.true_or])
    isV := fun i hi => (MV i hi).ty (by decide +kernel) ((PySem.HandSPX.refsVE_contains "ValueError" (veM far) rfl).trans (by decide +kernel))
    isR := fun i hi => (MV i hi).ty (by decide +kernel) ((PySem.HandSPX.refsVE_contains "RuntimeError" (veM far) rfl).trans (by decide +kernel))
    lV := M17.ty (by decide +kernel) (by decide +kernel)
    lR := M17.ty (by decide +kernel) (by decide +kernel) }
  have B2 : Bn2 mg := ⟨PySem.W.mg_none_of X G z_len, PySem.W.mg_none_of X G z_int, PySem.W.mg_none_of X G z_abs⟩
  have B3 : Bn3 mg := ⟨PySem.W.mg_none_of X G z_repr, PySem.W.mg_none_of X G z_enumerate, PySem.W.mg_none_of X G z_range, PySem.W.mg_none_of X G z_isinstance, PySem.W.mg_none_of X G z_ValueError, PySem.W.mg_none_of X G z_RuntimeError⟩
  exact ⟨_, fun s v => .of_eq rfl, fun base _ _ => run_law FLa (ER base) B2 B3 FPl bPl (PySem.W.mg_of X G aPl) FTk bTk (PySem.W.mg_of X G aTk) FVa bVa (PySem.W.mg_of X G aVa) FWo bWo (PySem.W.mg_of X G aWo) FAl bAl (PySem.W.mg_of X G aAl) FKi bKi (PySem.W.mg_of X G aKi)⟩
end K13
open PySem PySem.W PyProof.Rows
set_option maxRecDepth 100000 in
set_option maxHeartbeats 0 in
theorem PySem.Challenge.cw_farmisses_k13_errors_of_the_package_holds : PySem.Challenge.rw_farmisses_k13_errors_of_the_package.Holds := by
  w_on; o_law; k_head; (case hw => w_witness2)
  k_fill
  refine VX.walk_G (l := PySem.Challenge.rw_farmisses_k13_errors_of_the_package) (n := 63) (k := 4) (x := "_law_script") (CX := L2.CX0) (sp := K13.spLaw) rfl (by decide) rfl ⟨rfl, by decide, by decide⟩ (fun w h Y => PySem.W.kIn_of Y) ?F (fun _ _ a ns hl _ hS => ⟨a, ns, rfl, hS, hl, fun _ => rfl⟩) (fun _ _ _ _ z => z)
  case F =>
    intro w mg fa h KX G hmg
    refine' K13.all_mk KX G hmg ?aPl ?lPl ?cPl ?kPl ?aTk ?lTk ?cTk ?kTk ?aVa ?lVa ?cVa ?kVa ?aWo ?lWo ?cWo ?kWo ?aAl ?lAl ?cAl ?kAl ?aKi ?lKi ?cKi ?kKi ?aLa ?lLa ?cLa ?kLa ?aF ?cF ?tF ?aC0 ?lC0 ?sa0 ?kC0 ?ga0 ?gg0 ?ex0 ?ac0 ?mo0 ?no0 ?iC0 ?tI0 ?lE0 ?cE0 ?kE0 ?aC1 ?lC1 ?sa1 ?kC1 ?ga1 ?gg1 ?ex1 ?ac1 ?mo1 ?no1 ?iC1 ?tI1 ?lE1 ?cE1 ?kE1 ?aC2 ?lC2 ?sa2 ?kC2 ?ga2 ?gg2 ?ex2 ?ac2 ?mo2 ?no2 ?iC2 ?tI2 ?lE2 ?cE2 ?kE2 ?aC3 ?lC3 ?sa3 ?kC3 ?ga3 ?gg3 ?ex3 ?ac3 ?mo3 ?no3 ?iC3 ?tI3 ?lE3 ?cE3 ?kE3 ?aC4 ?lC4 ?sa4 ?kC4 ?ga4 ?gg4 ?ex4 ?ac4 ?mo4 ?no4 ?iC4 ?tI4 ?lE4 ?cE4 ?kE4 ?aC5 ?lC5 ?sa5 ?kC5 ?ga5 ?gg5 ?ex5 ?ac5 ?mo5 ?no5 ?iC5 ?tI5 ?lE5 ?cE5 ?kE5 ?aC6 ?lC6 ?sa6 ?kC6 ?ga6 ?gg6 ?ex6 ?ac6 ?mo6 ?no6 ?iC6 ?tI6 ?lE6 ?cE6 ?kE6 ?aC7 ?lC7 ?sa7 ?kC7 ?ga7 ?gg7 ?ex7 ?ac7 ?mo7 ?no7 ?iC7 ?tI7 ?lE7 ?cE7 ?kE7 ?aC8 ?lC8 ?sa8 ?kC8 ?ga8 ?gg8 ?ex8 ?ac8 ?mo8 ?no8 ?iC8 ?tI8 ?lE8 ?cE8 ?kE8 ?aC9 ?lC9 ?sa9 ?kC9 ?ga9 ?gg9 ?ex9 ?ac9 ?mo9 ?no9 ?iC9 ?tI9 ?lE9 ?cE9 ?kE9 ?aC10 ?lC10 ?sa10 ?kC10 ?ga10 ?gg10 ?ex10 ?ac10 ?mo10 ?no10 ?iC10 ?tI10 ?lE10 ?cE10 ?kE10 ?aC11 ?lC11 ?sa11 ?kC11 ?ga11 ?gg11 ?ex11 ?ac11 ?mo11 ?no11 ?iC11 ?tI11 ?lE11 ?cE11 ?kE11 ?aC12 ?lC12 ?sa12 ?kC12 ?ga12 ?gg12 ?ex12 ?ac12 ?mo12 ?no12 ?iC12 ?tI12 ?lE12 ?cE12 ?kE12 ?aC13 ?lC13 ?sa13 ?kC13 ?ga13 ?gg13 ?ex13 ?ac13 ?mo13 ?no13 ?iC13 ?tI13 ?lE13 ?cE13 ?kE13 ?aC14 ?lC14 ?sa14 ?kC14 ?ga14 ?gg14 ?ex14 ?ac14 ?mo14 ?no14 ?iC14 ?tI14 ?lE14 ?cE14 ?kE14 ?aC15 ?lC15 ?sa15 ?kC15 ?ga15 ?gg15 ?ex15 ?ac15 ?mo15 ?no15 ?iC15 ?tI15 ?lE15 ?cE15 ?kE15 ?aC16 ?lC16 ?sa16 ?kC16 ?ga16 ?gg16 ?ex16 ?ac16 ?mo16 ?no16 ?iC16 ?tI16 ?lE16 ?cE16 ?kE16 ?aC17 ?lC17 ?sa17 ?kC17 ?ga17 ?gg17 ?ex17 ?ac17 ?mo17 ?no17 ?iC17 ?tI17 ?lE17 ?cE17 ?kE17 ?an ?tk ?z_len ?z_int ?z_abs ?z_repr ?z_enumerate ?z_range ?z_isinstance ?z_ValueError ?z_RuntimeError ?nd ?nf
    (case aPl => k_is)
    (case lPl => k_is)
    (case cPl => k_is)
    (case kPl => k_is)
    (case aTk => k_is)
    (case lTk => k_is)
    (case cTk => k_is)
    (case kTk => k_is)
    (case aVa => k_is)
    (case lVa => k_is)
    (case cVa => k_is)
    (case kVa => k_is)
    (case aWo => k_is)
    (case lWo => k_is)
    (case cWo => k_is)
    (case kWo => k_is)
    (case aAl => k_is)
    (case lAl => k_is)
    (case cAl => k_is)
    (case kAl => k_is)
    (case aKi => k_is)
    (case lKi => k_is)
    (case cKi => k_is)
    (case kKi => k_is)
    (case aLa => k_is)
    (case lLa => k_is)
    (case cLa => k_is)
    (case kLa => k_is)
    (case aF => k_is)
    (case cF => k_is)
    (case tF => k_is)
    (case aC0 => k_is)
    (case lC0 => k_is)
    (case sa0 => k_is)
    (case kC0 => k_is)
    (case ga0 => k_is)
    (case gg0 => k_is)
    (case ex0 => k_is)
    (case ac0 => k_is)
    (case mo0 => k_is)
    (case no0 => k_is)
    (case iC0 => k_is)
    (case tI0 => k_is)
    (case lE0 => k_is)
    (case cE0 => k_is)
    (case kE0 => k_is)
    (case aC1 => k_is)
    (case lC1 => k_is)
    (case sa1 => k_is)
    (case kC1 => k_is)
    (case ga1 => k_is)
    (case gg1 => k_is)
    (case ex1 => k_is)
    (case ac1 => k_is)
    (case mo1 => k_is)
    (case no1 => k_is)
    (case iC1 => k_is)
    (case tI1 => k_is)
    (case lE1 => k_is)
    (case cE1 => k_is)
    (case kE1 => k_is)
    (case aC2 => k_is)
    (case lC2 => k_is)
    (case sa2 => k_is)
    (case kC2 => k_is)
    (case ga2 => k_is)
    (case gg2 => k_is)
    (case ex2 => k_is)
    (case ac2 => k_is)
    (case mo2 => k_is)
    (case no2 => k_is)
    (case iC2 => k_is)
    (case tI2 => k_is)
    (case lE2 => k_is)
    (case cE2 => k_is)
    (case kE2 => k_is)
    (case aC3 => k_is)
    (case lC3 => k_is)
    (case sa3 => k_is)
    (case kC3 => k_is)
    (case ga3 => k_is)
    (case gg3 => k_is)
    (case ex3 => k_is)
    (case ac3 => k_is)
    (case mo3 => k_is)
    (case no3 => k_is)
    (case iC3 => k_is)
    (case tI3 => k_is)
    (case lE3 => k_is)
    (case cE3 => k_is)
    (case kE3 => k_is)
    (case aC4 => k_is)
    (case lC4 => k_is)
    (case sa4 => k_is)
    (case kC4 => k_is)
    (case ga4 => k_is)
    (case gg4 => k_is)
    (case ex4 => k_is)
    (case ac4 => k_is)
    (case mo4 => k_is)
    (case no4 => k_is)
    (case iC4 => k_is)
    (case tI4 => k_is)
    (case lE4 => k_is)
    (case cE4 => k_is)
    (case kE4 => k_is)
    (case aC5 => k_is)
    (case lC5 => k_is)
    (case sa5 => k_is)
    (case kC5 => k_is)
    (case ga5 => k_is)
    (case gg5 => k_is)
    (case ex5 => k_is)
    (case ac5 => k_is)
    (case mo5 => k_is)
    (case no5 => k_is)
    (case iC5 => k_is)
    (case tI5 => k_is)
    (case lE5 => k_is)
    (case cE5 => k_is)
    (case kE5 => k_is)
    (case aC6 => k_is)
    (case lC6 => k_is)
    (case sa6 => k_is)
    (case kC6 => k_is)
    (case ga6 => k_is)
    (case gg6 => k_is)
    (case ex6 => k_is)
    (case ac6 => k_is)
    (case mo6 => k_is)
    (case no6 => k_is)
    (case iC6 => k_is)
    (case tI6 => k_is)
    (case lE6 => k_is)
    (case cE6 => k_is)
    (case kE6 => k_is)
    (case aC7 => k_is)
    (case lC7 => k_is)
    (case sa7 => k_is)
    (case kC7 => k_is)
    (case ga7 => k_is)
    (case gg7 => k_is)
    (case ex7 => k_is)
    (case ac7 => k_is)
    (case mo7 => k_is)
    (case no7 => k_is)
    (case iC7 => k_is)
    (case tI7 => k_is)
    (case lE7 => k_is)
    (case cE7 => k_is)
    (case kE7 => k_is)
    (case aC8 => k_is)
    (case lC8 => k_is)
    (case sa8 => k_is)
    (case kC8 => k_is)
    (case ga8 => k_is)
    (case gg8 => k_is)
    (case ex8 => k_is)
    (case ac8 => k_is)
    (case mo8 => k_is)
    (case no8 => k_is)
    (case iC8 => k_is)
    (case tI8 => k_is)
    (case lE8 => k_is)
    (case cE8 => k_is)
    (case kE8 => k_is)
    (case aC9 => k_is)
    (case lC9 => k_is)
    (case sa9 => k_is)
    (case kC9 => k_is)
    (case ga9 => k_is)
    (case gg9 => k_is)
    (case ex9 => k_is)
    (case ac9 => k_is)
    (case mo9 => k_is)
    (case no9 => k_is)
    (case iC9 => k_is)
    (case tI9 => k_is)
    (case lE9 => k_is)
    (case cE9 => k_is)
    (case kE9 => k_is)
    (case aC10 => k_is)
    (case lC10 => k_is)
    (case sa10 => k_is)
    (case kC10 => k_is)
    (case ga10 => k_is)
    (case gg10 => k_is)
    (case ex10 => k_is)
    (case ac10 => k_is)
    (case mo10 => k_is)
    (case no10 => k_is)
    (case iC10 => k_is)
    (case tI10 => k_is)
    (case lE10 => k_is)
    (case cE10 => k_is)
    (case kE10 => k_is)
    (case aC11 => k_is)
    (case lC11 => k_is)
    (case sa11 => k_is)
    (case kC11 => k_is)
    (case ga11 => k_is)
    (case gg11 => k_is)
    (case ex11 => k_is)
    (case ac11 => k_is)
    (case mo11 => k_is)
    (case no11 => k_is)
    (case iC11 => k_is)
    (case tI11 => k_is)
    (case lE11 => k_is)
    (case cE11 => k_is)
    (case kE11 => k_is)
    (case aC12 => k_is)
    (case lC12 => k_is)
    (case sa12 => k_is)
    (case kC12 => k_is)
    (case ga12 => k_is)
    (case gg12 => k_is)
    (case ex12 => k_is)
    (case ac12 => k_is)
    (case mo12 => k_is)
    (case no12 => k_is)
    (case iC12 => k_is)
    (case tI12 => k_is)
    (case lE12 => k_is)
    (case cE12 => k_is)
    (case kE12 => k_is)
    (case aC13 => k_is)
    (case lC13 => k_is)
    (case sa13 => k_is)
    (case kC13 => k_is)
    (case ga13 => k_is)
    (case gg13 => k_is)
    (case ex13 => k_is)
    (case ac13 => k_is)
    (case mo13 => k_is)
    (case no13 => k_is)
    (case iC13 => k_is)
    (case tI13 => k_is)
    (case lE13 => k_is)
    (case cE13 => k_is)
    (case kE13 => k_is)
    (case aC14 => k_is)
    (case lC14 => k_is)
    (case sa14 => k_is)
    (case kC14 => k_is)
    (case ga14 => k_is)
    (case gg14 => k_is)
    (case ex14 => k_is)
    (case ac14 => k_is)
    (case mo14 => k_is)
    (case no14 => k_is)
    (case iC14 => k_is)
    (case tI14 => k_is)
    (case lE14 => k_is)
    (case cE14 => k_is)
    (case kE14 => k_is)
    (case aC15 => k_is)
    (case lC15 => k_is)
    (case sa15 => k_is)
    (case kC15 => k_is)
    (case ga15 => k_is)
    (case gg15 => k_is)
    (case ex15 => k_is)
    (case ac15 => k_is)
    (case mo15 => k_is)
    (case no15 => k_is)
    (case iC15 => k_is)
    (case tI15 => k_is)
    (case lE15 => k_is)
    (case cE15 => k_is)
    (case kE15 => k_is)
    (case aC16 => k_is)
    (case lC16 => k_is)
    (case sa16 => k_is)
    (case kC16 => k_is)
    (case ga16 => k_is)
    (case gg16 => k_is)
    (case ex16 => k_is)
    (case ac16 => k_is)
    (case mo16 => k_is)
    (case no16 => k_is)
    (case iC16 => k_is)
    (case tI16 => k_is)
    (case lE16 => k_is)
    (case cE16 => k_is)
    (case kE16 => k_is)
    (case aC17 => k_is)
    (case lC17 => k_is)
    (case sa17 => k_is)
    (case kC17 => k_is)
    (case ga17 => k_is)
    (case gg17 => k_is)
    (case ex17 => k_is)
    (case ac17 => k_is)
    (case mo17 => k_is)
    (case no17 => k_is)
    (case iC17 => k_is)
    (case tI17 => k_is)
    (case lE17 => k_is)
    (case cE17 => k_is)
    (case kE17 => k_is)
    (case an => k_is)
    (case tk => k_is)
    (case z_len => k_is)
    (case z_int => k_is)
    (case z_abs => k_is)
    (case z_repr => k_is)
    (case z_enumerate => k_is)
    (case z_range => k_is)
    (case z_isinstance => k_is)
    (case z_ValueError => k_is)
    (case z_RuntimeError => k_is)
    (case nd => decide +kernel)
    (case nf => decide +kernel)

