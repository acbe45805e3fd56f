import PyProof.Rows.All
import Wide.All
import OpenK.AllK
import Wide.FinOn
import HandS.ForMost
import HandS.IsInst
import HandS.Property
import HandS.Star
import HandS.Rev
import HandS.TupMul
import HandS.Wide
import HandS.Style
import HandS.Walk
import HandS.Defaults
import HandS.ForExc
import HandS.ExcInit
import HandS.ExcIs
import HandS.ExcField
import HandS.RaiseMore
import HandS.ExcValue
import KE.GoesEnum
import KE.GoesMore
import HandS.TupAny
import KE.KRevSl
import KE.KExcIs
import PyProof.ReprRoads
import HandS.Steps
import HandS.Text
import PySem.Challenge.RW_farmisses_k02_names
import HandS.WordsExc
import HandS.ExcOwn
import HandS.Codes
import HandS.Small
import HandS.Conv
import HandS.TryOnly
import HandS.TupLe
set_option Elab.async false
set_option linter.all false
/-! Sizes as lists of ints: plain mathematics. -/
namespace SZ
/-- without the zeros at the end -/
def trim : List Int → List Int
  | [] => []
  | x :: r => match trim r with
    | [] => if x = 0 then [] else [x]
    | y :: ys => x :: y :: ys
theorem trim_app0 : ∀ ys : List Int, trim (ys ++ [0]) = trim ys
  | [] => by simp [trim]
  | y :: ys => by
    show trim (y :: (ys ++ [0])) = trim (y :: ys)
    simp only [trim]
    rw [trim_app0 ys]
theorem trim_app : ∀ (ys : List Int) {z : Int}, z ≠ 0 → trim (ys ++ [z]) = ys ++ [z]
  | [], z, h => by simp [trim, h]
  | y :: ys, z, h => by
    show trim (y :: (ys ++ [z])) = y :: (ys ++ [z])
    simp only [trim]
    rw [trim_app ys h]
    cases e : ys ++ [z] with
    | nil => simp at e
    | cons a b => rfl
theorem trim_len : ∀ xs : List Int, (trim xs).length ≤ xs.length
  | [] => Nat.le_refl _
  | x :: r => by
    have ih := trim_len r
    simp only [trim]
    cases e : trim r with
    | nil => dsimp only; split <;> simp
    | cons y ys => rw [e] at ih; simp only [List.length_cons] at ih ⊢; omega
theorem trim_mem : ∀ {xs : List Int} {c : Int}, c ∈ trim xs → c ∈ xs
  | [], _, h => h
  | x :: r, c, h => by
    have ih := @trim_mem r c
    simp only [trim] at h
    cases e : trim r with
    | nil =>
      rw [e] at h
      dsimp only at h
      split at h
      · cases h
      · exact List.mem_cons.mpr (.inl (by simpa using h))
    | cons y ys =>
      rw [e] at h ih
      rcases List.mem_cons.mp h with h | h
      · exact List.mem_cons.mpr (.inl h)
      · exact List.mem_cons.mpr (.inr (ih h))
theorem trim_trim : ∀ xs : List Int, trim (trim xs) = trim xs
  | [] => rfl
  | x :: r => by
    have ih := trim_trim r
    simp only [trim]
    cases e : trim r with
    | nil => dsimp only; split <;> simp [trim, *]
    | cons y ys =>
      rw [e] at ih
      show trim (x :: (y :: ys)) = x :: (y :: ys)
      rw [trim, ih]
/-- the value at n -/
def ev : List Int → Int → Int
  | [], _ => 0
  | c :: r, n => ev r n * n + c
theorem ev_trim : ∀ (xs : List Int) (n : Int), ev (trim xs) n = ev xs n
  | [], _ => rfl
  | x :: r, n => by
    have ih := ev_trim r n
    simp only [trim]
    cases e : trim r with
    | nil =>
      rw [e] at ih
      have h0 : ev r n = 0 := ih.symm
      dsimp only
      split
      · rename_i hx
        simp [ev, h0, hx]
      · simp [ev, h0]
    | cons y ys =>
      rw [e] at ih
      show ev (y :: ys) n * n + x = ev r n * n + x
      rw [ih]
/-- item by item -/
def sumL : List Int → List Int → List Int
  | [], ys => ys
  | x :: xs, [] => x :: xs
  | x :: xs, y :: ys => (x + y) :: sumL xs ys
theorem sumL_nil (xs : List Int) : sumL xs [] = xs := by cases xs <;> rfl
theorem ev_sumL : ∀ (xs ys : List Int) (n : Int), ev (sumL xs ys) n = ev xs n + ev ys n
  | [], ys, n => by simp [sumL, ev]
  | x :: xs, [], n => by simp [sumL, ev]
  | x :: xs, y :: ys, n => by
    simp only [sumL, ev, ev_sumL xs ys n, Int.add_mul]
    omega
theorem len_sumL : ∀ xs ys : List Int, (sumL xs ys).length = max xs.length ys.length
  | [], ys => by simp [sumL]
  | x :: xs, [] => by simp [sumL]
  | x :: xs, y :: ys => by simp only [sumL, List.length_cons, len_sumL xs ys]; omega
theorem get_sumL : ∀ (xs ys : List Int) (i : Nat), (sumL xs ys).getD i 0 = xs.getD i 0 + ys.getD i 0
  | [], ys, i => by simp [sumL]
  | x :: xs, [], i => by simp [sumL]
  | x :: xs, y :: ys, 0 => by simp [sumL]
  | x :: xs, y :: ys, i + 1 => by simpa [sumL] using get_sumL xs ys i
def negL (xs : List Int) : List Int := xs.map fun x => -x
theorem ev_negL : ∀ (xs : List Int) (n : Int), ev (negL xs) n = - ev xs n
  | [], n => by simp [negL, ev]
  | x :: xs, n => by
    have ih := ev_negL xs n
    show ev (negL xs) n * n + -x = -(ev xs n * n + x)
    rw [ih, Int.neg_mul]
    omega
/-- c times ys, added to zs from place k on -/
def addAt (zs : List Int) (k : Nat) (d : Int) : List Int := zs.set k (zs.getD k 0 + d)
theorem len_addAt (zs : List Int) (k : Nat) (d : Int) : (addAt zs k d).length = zs.length := by simp [addAt]
def rowAt (zs : List Int) (k : Nat) (c : Int) (ys : List Int) : List Int := ys.zipIdx.foldl (fun z p => addAt z (k + p.2) (c * p.1)) zs
/-- powers of n -/
theorem ev_addAt : ∀ (zs : List Int) (k : Nat) (d n : Int), k < zs.length → ev (addAt zs k d) n = ev zs n + d * n ^ k
  | [], k, d, n, h => by simp at h
  | z :: zs, 0, d, n, h => by simp [addAt, ev]; omega
  | z :: zs, k + 1, d, n, h => by
    have ih := ev_addAt zs k d n (by simpa using h)
    have e : addAt (z :: zs) (k + 1) d = z :: addAt zs k d := by simp [addAt]
    rw [e]
    show ev (addAt zs k d) n * n + z = ev zs n * n + z + d * n ^ (k + 1)
    rw [ih, Int.add_mul, Int.pow_succ, Int.mul_assoc]
    omega
/-- the product, as the two loops make it: the first i of xs whole, the first j of ys with the next one -/
def mulL : List Int → List Int → List Int
  | [], ys => List.replicate ys.length 0
  | x :: xs, ys => sumL (ys.map (x * ·)) (0 :: mulL xs ys)
theorem ev_map_mul : ∀ (x : Int) (ys : List Int) (n : Int), ev (ys.map (x * ·)) n = x * ev ys n
  | x, [], n => by simp [ev]
  | x, y :: ys, n => by
    show ev (ys.map (x * ·)) n * n + x * y = x * (ev ys n * n + y)
    rw [ev_map_mul x ys n, Int.mul_add, Int.mul_assoc]
theorem ev_rep0 : ∀ (k : Nat) (n : Int), ev (List.replicate k 0) n = 0
  | 0, _ => rfl
  | k + 1, n => by rw [List.replicate_succ]; simp [ev, ev_rep0 k n]
theorem ev_mulL : ∀ (xs ys : List Int) (n : Int), ev (mulL xs ys) n = ev xs n * ev ys n
  | [], ys, n => by simp [mulL, ev_rep0, ev]
  | x :: xs, ys, n => by
    rw [mulL, ev_sumL, ev_map_mul]
    show x * ev ys n + (ev (mulL xs ys) n * n + 0) = (ev xs n * n + x) * ev ys n
    rw [ev_mulL xs ys n, Int.add_mul, Int.add_zero, Int.add_comm, Int.mul_assoc, Int.mul_assoc, Int.mul_comm (ev ys n) n]
theorem len_mulL : ∀ xs ys : List Int, (mulL xs ys).length = xs.length + ys.length
  | [], ys => by simp [mulL]
  | x :: xs, ys => by rw [mulL, len_sumL, List.length_map, List.length_cons, len_mulL xs ys, List.length_cons]; omega
/-- all below 2 ^ k in size -/
def Bd (k : Nat) (xs : List Int) : Prop := ∀ c ∈ xs, c.natAbs < 2 ^ k
theorem Bd.mono {j k : Nat} {xs : List Int} (h : Bd j xs) (hk : j ≤ k) : Bd k xs := fun c hc => Nat.lt_of_lt_of_le (h c hc) (Nat.pow_le_pow_right (by decide) hk)
theorem Bd.trim {k : Nat} {xs : List Int} (h : Bd k xs) : Bd k (trim xs) := fun c hc => h c (trim_mem hc)
theorem Bd.nil {k : Nat} : Bd k [] := fun _ h => nomatch h
theorem Bd.cons {k : Nat} {x : Int} {xs : List Int} (h : x.natAbs < 2 ^ k) (t : Bd k xs) : Bd k (x :: xs) := fun c hc => by
  rcases List.mem_cons.mp hc with e | e
  · rw [e]; exact h
  · exact t c e
theorem natAbs_add_lt {a b : Int} {k : Nat} (ha : a.natAbs < 2 ^ k) (hb : b.natAbs < 2 ^ k) : (a + b).natAbs < 2 ^ (k + 1) := by
  have : (2 : Nat) ^ (k + 1) = 2 ^ k + 2 ^ k := by rw [Nat.pow_succ]; omega
  omega
theorem natAbs_mul_lt {a b : Int} {j k : Nat} (ha : a.natAbs < 2 ^ j) (hb : b.natAbs < 2 ^ k) : (a * b).natAbs < 2 ^ (j + k) := by
  rw [Int.natAbs_mul, Nat.pow_add]
  exact Nat.mul_lt_mul'' ha hb
theorem two_pos (k : Nat) : 0 < 2 ^ k := Nat.pow_pos (by decide)
theorem Bd.sumL : ∀ {k : Nat} {xs ys : List Int}, Bd k xs → Bd k ys → Bd (k + 1) (sumL xs ys)
  | k, [], ys, _, h => h.mono (Nat.le_succ _)
  | k, x :: xs, [], h, _ => h.mono (Nat.le_succ _)
  | k, x :: xs, y :: ys, h, g => by
    refine Bd.cons (natAbs_add_lt (h x (List.mem_cons_self ..)) (g y (List.mem_cons_self ..))) (Bd.sumL (fun c hc => h c (List.mem_cons_of_mem _ hc)) fun c hc => g c (List.mem_cons_of_mem _ hc))
theorem Bd.negL {k : Nat} {xs : List Int} (h : Bd k xs) : Bd k (negL xs) := fun c hc => by
  obtain ⟨x, hx, e⟩ := List.mem_map.mp hc
  rw [← e, Int.natAbs_neg]
  exact h x hx
theorem Bd.mulL : ∀ {j k : Nat} {xs ys : List Int}, Bd j xs → Bd k ys → Bd (j + k + xs.length) (mulL xs ys)
  | j, k, [], ys, _, h => fun c hc => by
    have : c = 0 := (List.mem_replicate.mp hc).2
    rw [this]; exact two_pos _
  | j, k, x :: xs, ys, h, g => by
    have ih := Bd.mulL (fun c hc => h c (List.mem_cons_of_mem _ hc) : Bd j xs) g
    have e : j + k + (x :: xs).length = (j + k + xs.length) + 1 := by rw [List.length_cons]; omega
    rw [e]
    refine Bd.sumL (fun c hc => ?_) (Bd.cons (two_pos _) ih)
    obtain ⟨y, hy, e2⟩ := List.mem_map.mp hc
    rw [← e2]
    exact Nat.lt_of_lt_of_le (natAbs_mul_lt (h x (List.mem_cons_self ..)) (g y hy)) (Nat.pow_le_pow_right (by decide) (Nat.le_add_right _ _))
/-- how great a value is -/
theorem ev_lt : ∀ {b m : Nat} {xs : List Int} {n : Int}, Bd b xs → n.natAbs < 2 ^ m → (ev xs n).natAbs < 2 ^ (b + xs.length * (m + 1))
  | b, m, [], n, _, _ => two_pos _
  | b, m, x :: xs, n, h, hn => by
    have ih := ev_lt (fun c hc => h c (List.mem_cons_of_mem _ hc) : Bd b xs) hn
    have e : b + (x :: xs).length * (m + 1) = (b + xs.length * (m + 1) + m) + 1 := by rw [List.length_cons, Nat.succ_mul]; omega
    rw [e]
    show (ev xs n * n + x).natAbs < _
    refine natAbs_add_lt (natAbs_mul_lt ih hn) (Nat.lt_of_lt_of_le (h x (List.mem_cons_self ..)) (Nat.pow_le_pow_right (by decide) (by omega)))
/-- ys in place of n: as the loop makes it, from the last one on -/
def cmp : List Int → List Int → List Int
  | [], _ => []
  | c :: r, ys => trim (sumL (trim (mulL (cmp r ys) ys)) [c])
theorem ev_cmp : ∀ (xs ys : List Int) (n : Int), ev (cmp xs ys) n = ev xs (ev ys n)
  | [], _, _ => rfl
  | c :: r, ys, n => by
    rw [cmp, ev_trim, ev_sumL, ev_trim, ev_mulL, ev_cmp r ys n]
    simp [ev]
end SZ

namespace SZ
theorem ext_getD {xs ys : List Int} (hl : xs.length = ys.length) (h : ∀ k, xs.getD k 0 = ys.getD k 0) : xs = ys := by
  apply List.ext_getElem hl
  intro k h1 h2
  have := h k
  rw [List.getD_eq_getElem?_getD, List.getD_eq_getElem?_getD, List.getElem?_eq_getElem h1, List.getElem?_eq_getElem h2] at this
  simpa using this
theorem getD_set (zs : List Int) (j k : Nat) (d : Int) : (zs.set j d).getD k 0 = if k = j ∧ j < zs.length then d else zs.getD k 0 := by
  rw [List.getD_eq_getElem?_getD, List.getD_eq_getElem?_getD, List.getElem?_set]
  by_cases e : j = k
  · subst e
    by_cases hl : j < zs.length
    · simp [hl]
    · simp [hl]
  · simp [e, Ne.symm e]
theorem getD_rep (n k : Nat) : (List.replicate n (0 : Int)).getD k 0 = 0 := by
  rw [List.getD_eq_getElem?_getD, List.getElem?_replicate]
  split <;> rfl
theorem getD_of_ge {xs : List Int} {k : Nat} (h : xs.length ≤ k) : xs.getD k 0 = 0 := by
  rw [List.getD_eq_getElem?_getD, List.getElem?_eq_none h]
  rfl
/-- the k-th coefficient of the product -/
def cf : List Int → List Int → Nat → Int
  | [], _, _ => 0
  | x :: xs, ys, k => x * ys.getD k 0 + (match k with | 0 => 0 | k + 1 => cf xs ys k)
theorem get_map_mul (x : Int) (ys : List Int) (k : Nat) : (ys.map (x * ·)).getD k 0 = x * ys.getD k 0 := by
  rw [List.getD_eq_getElem?_getD, List.getD_eq_getElem?_getD, List.getElem?_map]
  cases ys[k]? <;> simp
theorem get_mulL : ∀ (xs ys : List Int) (k : Nat), (mulL xs ys).getD k 0 = cf xs ys k
  | [], ys, k => by rw [mulL, getD_rep]; rfl
  | x :: xs, ys, 0 => by rw [mulL, get_sumL, get_map_mul]; simp [cf]
  | x :: xs, ys, k + 1 => by
    rw [mulL, get_sumL, get_map_mul]
    show x * ys.getD (k + 1) 0 + (mulL xs ys).getD k 0 = _
    rw [get_mulL xs ys k]
    rfl
theorem cf_app : ∀ (xs : List Int) (x : Int) (ys : List Int) (k : Nat), cf (xs ++ [x]) ys k = cf xs ys k + if xs.length ≤ k then x * ys.getD (k - xs.length) 0 else 0
  | [], x, ys, k => by
    show cf [x] ys k = 0 + if 0 ≤ k then x * ys.getD (k - 0) 0 else 0
    cases k <;> simp [cf]
  | z :: xs, x, ys, 0 => by simp [cf]
  | z :: xs, x, ys, k + 1 => by
    show z * ys.getD (k + 1) 0 + cf (xs ++ [x]) ys k = z * ys.getD (k + 1) 0 + cf xs ys k + if xs.length + 1 ≤ k + 1 then x * ys.getD (k + 1 - (xs.length + 1)) 0 else 0
    rw [cf_app xs x ys k]
    have e : k + 1 - (xs.length + 1) = k - xs.length := by omega
    rw [e, Int.add_assoc]
    congr 2
    by_cases h : xs.length ≤ k
    · rw [if_pos h, if_pos (by omega)]
    · rw [if_neg h, if_neg (by omega)]
theorem cf_take {xs ys : List Int} {i : Nat} {x : Int} (h : xs[i]? = some x) (k : Nat) : cf (xs.take (i + 1)) ys k = cf (xs.take i) ys k + if i ≤ k then x * ys.getD (k - i) 0 else 0 := by
  have hi : i < xs.length := (List.getElem?_eq_some_iff.mp h).1
  have e : xs.take (i + 1) = xs.take i ++ [x] := by rw [List.take_add_one, h]; rfl
  rw [e, cf_app, List.length_take, Nat.min_eq_left (Nat.le_of_lt hi)]
/-- the loops' lists, by their coefficients -/
structure Is (zs : List Int) (n : Nat) (F : Nat → Int) : Prop where
  len : zs.length = n
  get : ∀ k, zs.getD k 0 = F k
theorem Is.set {zs : List Int} {n : Nat} {F : Nat → Int} (h : Is zs n F) {j : Nat} (hj : j < n) {d : Int} {G : Nat → Int} (hg : ∀ k, G k = if k = j then d else F k) : Is (zs.set j d) n G :=
  ⟨by rw [List.length_set, h.len], fun k => by
    rw [getD_set, hg, h.get, h.len]
    by_cases e : k = j
    · rw [if_pos ⟨e, hj⟩, if_pos e]
    · rw [if_neg (fun q => e q.1), if_neg e]⟩
theorem Is.eq {zs ys : List Int} {n : Nat} {F : Nat → Int} (h : Is zs n F) (hl : ys.length = n) (hy : ∀ k, ys.getD k 0 = F k) : zs = ys := ext_getD (h.len.trans hl.symm) fun k => (h.get k).trans (hy k).symm
theorem getD_some {xs : List Int} {i : Nat} {x : Int} (h : xs[i]? = some x) : xs.getD i 0 = x := by rw [List.getD_eq_getElem?_getD, h]; rfl
end SZ

set_option maxRecDepth 100000
set_option maxHeartbeats 4000000
/-! Rules of my own over the hand layer. -/
namespace VR
open PySem PySem.Spec PyProof.Rows L2

/-! ### an own binary operator whose right side is of the same class, or of a built-in type -/
section
open PySem.W
variable {prog : Program} {w : World} {A : Around} {E : Value → Shared → Prop} {s : Shared} {K : Frag} {x C L f y : Addr} {h₀ : Heap} {m : Str → Option Value} {ox : Obj} {od : Option Obj} {nm : String}
theorem binSame {op : Operator} {Q : Value → Shared → Prop} (X : K.In s.heap) (I : InstAt s.heap x ox C od) (hb : Looks (model prog w) s.heap (typeOf (.ref y)) (.ref C)) (hc : selfFirst K C = true)
    (hs : findIn K (.ref C) (PySem.dunder op.info.2) = some (some (.ref f))) (hf : isFn K (.ref f) = true)
    (h : wpAny (model prog w) A (call (.ref f) [.ref x, .ref y]) (PySem.W.CmpBack Q) E s) : wpAny (model prog w) A (binaryOp op (.ref x) (.ref y)) Q E s := by
  obtain ⟨cd, rest, hcd, hm⟩ := ksp_first hc
  rcases hi : op.info with ⟨sym, nm'⟩
  rw [hi] at hs
  dsimp only at hs
  have one := ksp_try X I hs hf h
  obtain ⟨hh, g, d, tt, os⟩ := s
  have L1 : Looks (model prog w) hh (typeOf (.ref x)) (.ref C) := I.type
  have L2 : Looks (model prog w) hh (typeOf (.ref y)) (.ref C) := hb
  have L3 : Looks (model prog w) hh (fillsNumberSlot (.ref C) nm') true := fills_K X hcd hm hs
  have he : (Value.ref C == Value.ref C) = true := by simp
  simp only [binaryOp, hi]
  refine wpAny_holding (wpAny_bind ?_)
  unfold binaryOp1
  refine wpAny_bind (L1.at (wpAny_bind (L2.at (wpAny_bind (L3.at ?_)))))
  simp only [he, if_true]
  ksp_lk
  refine wpAny_mono one (fun r s' hr' => ?_) fun _ _ e => e
  obtain ⟨v, rfl, hq⟩ := hr'
  ksp_lk
  exact hq
end

/-- what the class at C must say that its own operator f is asked -/
structure BinOwn (K : PySem.W.Frag) (C : Addr) (nm : String) (f : Addr) : Prop where
  sf : PySem.W.selfFirst K C = true
  hs : PySem.W.findIn K (.ref C) (PySem.dunder nm) = some (some (.ref f))
  hf : PySem.W.isFn K (.ref f) = true
  hr : PySem.W.findIn K (.ref C) (dunderR nm) = some none
  ti : ∃ fo ro, PySem.W.findIn K (.type "int") (PySem.dunder nm) = some fo ∧ PySem.W.findIn K (.type "int") (dunderR nm) = some ro
  su : PySem.W.subIn K (.type "int") (.ref C) = some false

theorem relV_back {v : V} {u : Value} (r : RelV v u) {Q : Value → Shared → Prop} {s : Shared} (q : Q u s) : PySem.W.CmpBack Q u s := by
  cases v with
  | non => cases (show u = Value.none from r); exact q
  | bl b => cases (show u = Value.bool b from r); exact q
  | int i => obtain ⟨t, e⟩ := (show ∃ t, u = Value.int i t from r); cases e; exact q
  | str i => obtain ⟨t, e⟩ := (show ∃ t, u = Value.str i t from r); cases e; exact q
  | byt i => obtain ⟨t, e⟩ := (show ∃ t, u = Value.bytes i t from r); cases e; exact q
  | flt i => obtain ⟨t, e⟩ := (show ∃ t, u = Value.float i t from r); cases e; exact q
  | ref a => cases (show u = Value.ref a from r); exact q
  | ty n => cases (show u = Value.type n from r); exact q

/-- one + other -/
def rOwn (C : Addr) (sp : Sp) (E : XK) : R2 := fun x y H Q => ∃ a dx fs, x = .ref a ∧ H a = some (.ins C dx fs) ∧ ((∃ b dy gs, y = .ref b ∧ H b = some (.ins C dy gs)) ∨ ∃ i, y = .int i) ∧ sp [x, y] H Q E
section
variable {X : Cx} {CX : CXT} {k : Nat} {C f : Addr} {fd : FuncData} {ps : List Str} {sp : Sp} {E : XK} {op : Operator}
theorem op_own (B : BinOwn X.K C op.info.2 f) (F : FnOk X.prog X.w X.K X.mg X.base CX k f fd ps sp) (hr : Room k X.A) (hb : Binds X.K fd ps []) (hx : Passes CX X E) : OpR X (binaryOp op) (rOwn C sp E) := by
  intro pins s σ H x y v u Q I rx ry h
  obtain ⟨a, dx, fs, rfl, ha, hy, q⟩ := h
  cases rx
  obtain ⟨mA, O, _⟩ := ins_get I.hok ha
  obtain ⟨od, J, _⟩ := O.look
  have call : ∀ {u : Value}, RelV y u → wpAny (model X.prog X.w) X.A (call (.ref f) [.ref a, u]) (PySem.W.CmpBack (EP X pins σ Q)) X.xe s := fun {u} ry =>
    wpAny_mono (run_fn (us := [.ref a, u]) (vs := [.ref a, y]) (dvs := []) F hr hb .nil hx I (.cons rfl (.cons ry .nil)) q) (fun r s' hq => by
      obtain ⟨z, H', I', rz, hz⟩ := hq
      exact relV_back rz ⟨z, H', I', rz, hz⟩) fun _ _ z => z
  rcases hy with ⟨b, dy, gs, rfl, hb'⟩ | ⟨i, rfl⟩
  · cases ry
    obtain ⟨mB, O', _⟩ := ins_get I.hok hb'
    obtain ⟨od', J', _⟩ := O'.look
    exact binSame I.kIn J J'.type B.sf B.hs B.hf (call rfl)
  · obtain ⟨t, rfl⟩ := (show ∃ t, u = Value.int i t from ry)
    obtain ⟨m, hF⟩ := I.fr
    obtain ⟨fo, ro, h1, h2⟩ := B.ti
    exact PySem.W.ksp_binT hF I.ok.mod.kin J rfl B.sf B.hs B.hf B.hr (.inl rfl) h1 h2 B.su (call ⟨t, rfl⟩)
/-- -one -/
def rOwnU (C : Addr) (sp : Sp) (E : XK) : V → Hp → VK → Prop := fun x H Q => ∃ a dx fs, x = .ref a ∧ H a = some (.ins C dx fs) ∧ sp [x] H Q E
theorem un_own (hs : PySem.W.findIn X.K (.ref C) "__neg__" = some (some (.ref f))) (hf : PySem.W.isFn X.K (.ref f) = true) (F : FnOk X.prog X.w X.K X.mg X.base CX k f fd ps sp) (hr : Room k X.A) (hb : Binds X.K fd ps []) (hx : Passes CX X E) :
    UnR X (unaryOp .USub) (rOwnU C sp E) := by
  intro pins s σ H x v Q I rx h
  obtain ⟨a, dx, fs, rfl, ha, q⟩ := h
  cases rx
  obtain ⟨mA, O, _⟩ := ins_get I.hok ha
  obtain ⟨od, J, _⟩ := O.look
  obtain ⟨m, hF⟩ := I.fr
  exact PySem.W.ksp_neg hF I.ok.mod.kin J hs hf (run_fn (us := [.ref a]) (vs := [.ref a]) (dvs := []) F hr hb .nil hx I (.cons rfl .nil) q)
end

/-! ### enumerate(tuple) -/
def IteT (K : PySem.W.Frag) (a : Addr) : It :=
  ⟨fun i H => ∃ (xs : List V) (x : V), SqT K H a xs ∧ xs[i]? = some x, fun i H v H' => ∃ T x, v = .ref T ∧ H T = none ∧ H' = upd H T (.tup [.int (i : Nat), x]) ∧ ∀ xs, SqT K H a xs → xs[i]? = some x, fun i H => ∃ xs : List V, SqT K H a xs ∧ xs.length = i⟩
theorem isTup_isTuple {h : Heap} {a : Addr} {its : Array Value} (x : IsTup h a its) : h.IsTuple a its := x
theorem turn_enumT {P : Program} {w : World} {K : PySem.W.Frag} {elts : List Expr} {kk : Nat} {tpos : Pos} (a e it : Addr) (hai : a ≠ it) (hae : a ≠ e) :
    Turn P w K (.Tuple elts kk tpos) (IteT K a) [e, it] e (fun i h => (∃ old, IsEnum h e it ((i : Nat) : Int) old) ∧ h.IsTupleIter it a i ∧ e ≠ it) where
  mem := by simp
  obj := fun i h st b hb => by
    obtain ⟨⟨old, he⟩, ⟨o, ho, hc, hd⟩, _⟩ := st
    have e' : b = e ∨ b = it := by simpa using hb
    rcases e' with z | z
    · rw [z]; exact ⟨_, he, fun v q => nomatch q⟩
    · rw [z]; exact ⟨o, ho, fun v q => by rw [hd] at q; cases q⟩
  keep := fun i h h' st k => let ⟨⟨old, he⟩, hi, hne⟩ := st; ⟨⟨old, k e (by simp) _ he⟩, hi.at fun o q => k it (by simp) o q, hne⟩
  item := by
    intro X hP hw hK hc i pins s σ H E I hf st hg
    subst hP hw hK
    obtain ⟨⟨old, he⟩, hit, hne⟩ := st
    obtain ⟨xs, x, hq, hx⟩ := hg
    obtain ⟨its, rv, p, hz⟩ := I.tuple hq
    obtain ⟨u, hu, ru⟩ := rv.get hx
    have hel : e < s.heap.objs.size := Heap.lt_size he
    have hil : it < s.heap.objs.size := by obtain ⟨_, q, _⟩ := hit; exact Heap.lt_size q
    have hlt : i < its.toArray.size := by
      have := (List.getElem?_eq_some_iff.mp hu).1
      simpa using this
    have D := Draws.tuple (prog := X.prog) (w := X.w) (A := X.A.in1) (show X.A.in1.handled = none from I.ok.hd hc) it a hai its.toArray
    refine wpAny_pyNext_enum_itemC (i := i) D he ⟨hit, isTup_isTuple p⟩ hlt hne (by simp [hne, Ne.symm hae]) fun y h' tk hy ho hst' hT hsz hk => ?_
    obtain ⟨hit', hit2⟩ := hst'
    have ey : y = u := by
      have q : its.toArray[i]? = some u := by simpa using hu
      have q2 : its.toArray[i]? = some y := hy
      rw [q] at q2
      exact (Option.some.inj q2).symm
    subst ey
    refine ⟨_, rfl, wpAny_letOwnedTupleGo_enum (s := { s with heap := h', toks := tk + 1 }) ho fun h'' he' sb => ?_⟩
    have hT2 : h''.get? s.heap.objs.size = some { cls := .type "tuple", data := .seq #[.int i tk, y] } := (sb.2 _ (Nat.ne_of_gt hel)).trans hT
    have new : ObjOk X.prog X.w (upd H s.heap.objs.size (.tup [.int (i : Nat), x])) h'' s.heap.objs.size (.tup [.int (i : Nat), x]) :=
      ⟨by show 2 ≤ sizeLine; decide, [.int i tk, y], .cons ⟨_, rfl⟩ (.cons ru .nil), ⟨_, hT2, rfl, _, rfl⟩⟩
    have I1 : Inv X pins σ (upd H s.heap.objs.size (.tup [.int (i : Nat), x])) { s with heap := h'', toks := tk + 1 } :=
      I.turnedNew (ch := [e, it]) (fun b ob hb q => (sb.2 b (fun z => hb (by simp [z]))).trans (hk b ob (fun z => hb (by simp [z])) (fun z => hb (by simp [z])) q)) hf (Nat.le_refl _) new
    refine ⟨.ref s.heap.objs.size, _, I1, rfl, ⟨_, x, rfl, I.hok.fresh (Nat.le_refl _), rfl, fun ys hy => by rw [I.tuple_inj hy hq]; exact hx⟩, ⟨⟨y, ?_⟩, hit'.at fun o q => (sb.2 it (Ne.symm hne)).trans q, hne⟩, fun b hb => ?_⟩
    · have e1 : ((i + 1 : Nat) : Int) = (i : Int) + 1 := by omega
      rw [e1]; exact he'
    · have hb' : b < s.heap.objs.size := by
        have e' : b = e ∨ b = it := by simpa using hb
        rcases e' with z | z
        · rw [z]; exact hel
        · rw [z]; exact hil
      rw [upd_ne (Nat.ne_of_lt hb')]
      exact (hf b hb).1
  done := by
    intro X hP hw hK hc i pins s σ H E I hf st hg
    subst hP hw hK
    obtain ⟨⟨old, he⟩, hit, hne⟩ := st
    obtain ⟨xs, hq, hx⟩ := hg
    obtain ⟨its, rv, p, hz⟩ := I.tuple hq
    obtain ⟨f0, f1, f2, f3, f4, f5⟩ := hf it (by simp)
    have hl := rv.length
    have D := Draws.tuple (prog := X.prog) (w := X.w) (A := X.A.in1) (show X.A.in1.handled = none from I.ok.hd hc) it a hai its.toArray
    have hz : its.toArray.size = i := by rw [List.size_toArray]; omega
    subst hz
    exact wpAny_pyNext_enum_endD D he ⟨hit, isTup_isTuple p⟩ fun h' eb => ⟨rfl, I.turned (t' := s.toks) (fun b o hb q => eb b o hb q) f0 f1 f3 f4 f5⟩
  self := fun A i s Q E st h => let ⟨⟨_, he⟩, _⟩ := st; wpAny_pyIter_enum he h
theorem meets_enumB1 {v : Value} {o : Obj} {H : Heap → Prop} (B : Begins v o H) :
    Meets (Builtin.«enumerate.__new__» ⟨[.type "enumerate", v], []⟩) (fun _ R s => H s.heap ∧
      R (.ok (.ret (.ref (s.heap.push o).objs.size))) { s with heap := (s.heap.push o).push { cls := .type "enumerate", data := .fields #[.none, .bool false, .ref s.heap.objs.size, rawInt 0, .none, .none] } }) :=
  .of_wp fun prog w A R s h => by
    obtain ⟨hp, g, d, tk, os⟩ := s; obtain ⟨h1, h⟩ := h
    have hsub := sub_enumerate
    have q1 : ∀ {A' : Around} {E : Value → Shared → Prop} {Q : Value → Shared → Prop}, Q (.ref hp.objs.size) ⟨hp.push o, g, d, tk, os⟩ → wpAny (model prog w) A' (pyIter v) Q E ⟨hp, g, d, tk, os⟩ :=
      fun q => B.iter prog w _ _ ⟨hp, g, d, tk, os⟩ _ h1 q
    wp_walk using q1
    refine wpAny_stack_any fun st => wpAny_pure ?_
    split
    · rename_i c _ _ _ _ _
      cases (c == Value.type "enumerate")
      · wp_walk using q1
        exact ⟨_, rfl, h⟩
      · wp_walk using q1
        exact ⟨_, rfl, h⟩
    · wp_walk using q1
      exact ⟨_, rfl, h⟩
theorem call_enumT {prog : Program} {w : World} {A : Around} {E : Value → Shared → Prop} {s : Shared} {l : Addr} {items : Array Value} {Q : Value → Shared → Prop} (hL : s.heap.IsTuple l items)
    (h : ∀ h', IsEnum h' (s.heap.objs.size + 1) s.heap.objs.size 0 .none → h'.IsTupleIter s.heap.objs.size l 0 → h'.objs.size = s.heap.objs.size + 2 →
      (∀ b o, s.heap.get? b = some o → h'.get? b = some o) → Q (.ref (s.heap.objs.size + 1)) { s with heap := h' }) :
    wpAny (model prog w) A (call (.type "enumerate") [.ref l]) Q E s := by
  refine callType_new F.called_enumerate (by decide) (F.typeCall_enumerate_1 _) (F.newCall_enumerate_1 _) (fun obj => F.args_object_init_2 obj _) F.entry_enumerate_new
    (meets_enumB1 (begins_tuple l items)) ⟨hL, ?_⟩
  have hz : (s.heap.push { cls := .type "tuple_iterator", data := .fields #[.ref l, .int 0 0] }).objs.size = s.heap.objs.size + 1 := Heap.size_push ..
  show _ ∧ _
  rw [hz]
  have he : IsEnum ((s.heap.push { cls := .type "tuple_iterator", data := .fields #[.ref l, .int 0 0] }).push
      { cls := .type "enumerate", data := .fields #[.none, .bool false, .ref s.heap.objs.size, rawInt 0, .none, .none] }) (s.heap.objs.size + 1) s.heap.objs.size 0 .none := by
    have := Heap.get?_push_size (s.heap.push { cls := .type "tuple_iterator", data := .fields #[.ref l, .int 0 0] })
      (o := { cls := .type "enumerate", data := .fields #[.none, .bool false, .ref s.heap.objs.size, rawInt 0, .none, .none] }) rfl
    rw [hz] at this; exact this
  refine ⟨⟨_, he, rfl⟩, h _ he ⟨_, Heap.get?_push_of_some _ (Heap.get?_push_size _ rfl), rfl, rfl⟩ (by rw [Heap.size_push, hz]) fun b o x => Heap.get?_push_of_some _ (Heap.get?_push_of_some _ x)⟩
def iEnumT (K : PySem.W.Frag) (ta : TA) : TI := fun σ H R => ta σ H fun vs H1 => ∃ a xs, vs = [.ref a] ∧ SqT K H1 a xs ∧ R (IteT K a) H1
theorem pi_enumT {X : Cx} {e : Expr} {ta : TA} {p pos tpos : Pos} {elts : List Expr} {kk : Nat} (hg : Gl X "enumerate") (hm : X.mg "enumerate" = none) (ha : PA X [e] ta) (hs : starEach [e] X.env = [(false, eval e X.env)] := by rfl) :
    PI X (.Tuple elts kk tpos) (.Call (.Name "enumerate" p) [e] [] pos) (iEnumT X.K ta) := by
  refine ⟨fun pins s σ H R I h => ?_⟩
  refine Call_ (ld_blt I hg hm boot_enumerate (PyProof.Rows.callWith_type1 (thn (ha.run pos pins s σ H _ I h) fun us s1 ⟨vs, H1, I1, r1, q1⟩ => ?_) hs rfl))
  obtain ⟨a, xs, ex, hq, q⟩ := q1
  subst ex
  cases r1 with
  | cons r rr =>
    cases rr
    cases r
    obtain ⟨its, rv, p', hz⟩ := I1.tuple hq
    have hal : a < s1.heap.objs.size := by obtain ⟨o, ho, _⟩ := id p'; exact Heap.lt_size ho
    refine call_enumT (isTup_isTuple p') fun h' he hit hsz hk => wpAny_pyIter_enum he ?_
    have I2 : Inv X pins σ H1 { s1 with heap := h' } := I1.kept (t' := s1.toks) hk
    refine ⟨s1.heap.objs.size + 1, [s1.heap.objs.size + 1, s1.heap.objs.size], _, _, H1, rfl, I2, turn_enumT a (s1.heap.objs.size + 1) s1.heap.objs.size (Nat.ne_of_lt hal) (Nat.ne_of_lt (Nat.lt_succ_of_lt hal)), ⟨⟨.none, he⟩, hit, Nat.succ_ne_self _⟩, fun b hb => ?_, q⟩
    have e' : b = s1.heap.objs.size + 1 ∨ b = s1.heap.objs.size := by simpa using hb
    have hle : s1.heap.objs.size ≤ b := by
      rcases e' with z | z
      · rw [z]; exact Nat.le_add_right _ _
      · rw [z]; exact Nat.le_refl _
    exact I1.fpOk hle (I1.hok.fresh hle)
theorem walk_enumT {K : PySem.W.Frag} {a : Addr} {xs : List V} : Walk (IteT K a) xs.length (fun H => SqT K H a xs) (YPair (fun i => some (.int (i : Nat))) (fun i => xs[i]?)) := by
  refine ⟨fun i _ hi q => ⟨xs, xs[i], q, by simp [hi]⟩, fun _ q => ⟨xs, q, rfl⟩, fun i H v H' _ q y => ?_⟩
  obtain ⟨T, x, h1, h2, h3, h4⟩ := y
  exact ⟨T, .int (i : Nat), x, h1, h2, h3, rfl, h4 xs q⟩
end VR

namespace VR
open PySem PySem.Spec PyProof.Rows L2
section
open PySem.W
variable {prog : Program} {w : World} {A : Around} {E : Value → Shared → Prop} {s : Shared} {K : Frag} {x C L f y : Addr} {h₀ : Heap} {m : Str → Option Value} {ox : Obj} {od : Option Obj} {nm : String} {b tb : Value}
/-- x != b, the class at C with an own __eq__ and no __ne__ -/
theorem ne_K {Q : Value → Shared → Prop} (hu : A.units + 1 < cLine) (X : K.In s.heap) (I : InstAt s.heap x ox C od) (hb : Looks (model prog w) s.heap (typeOf b) tb) (hn : notFirst K C tb = true)
    (hs : findIn K (.ref C) "__ne__" = some (some (.builtin "object.__ne__"))) (he : findIn K (.ref C) "__eq__" = some (some (.ref f))) (hf : isFn K (.ref f) = true) (hm : mroIn K C (.type "object") = some true)
    (h : wpAny (model prog w) A.in1 (call (.ref f) [.ref x, b]) (fun v s' => ∃ c, v = .bool c ∧ Q (.bool (!c)) s') E s) : wpAny (model prog w) A (richCompare .NotEq (.ref x) b) Q E s := by
  have sub : Looks (model prog w) s.heap (isInstance (.ref x) (.type "object")) true := I.type.andThen (looks_mroIn X hm)
  have one : wpAny (model prog w) A (tryCompare (.ref x) "__ne__" b) (fun r s' => ∃ v, r = some v ∧ Q v s') E s := by
    unfold tryCompare
    have inner : wpAny (model prog w) A (call (.builtin "object.__ne__") [.ref x, b]) (fun v s' => ∃ c, v = .bool (!c) ∧ Q (.bool (!c)) s') E s := by
      refine wpAny_call (codeAny_call_builtin PySem.F.slot_tuple_iterator_ne.plain PySem.F.cmpEntry_ne (check_slot PySem.F.cmpKind_ne PySem.F.cmpSplit_ne sub (PySem.F.cmpArgs_ne _ _) ?_))
      unfold Builtin.«object.__ne__»
      refine wpAny_bind (wpAny_of_eq (a := ((Value.ref x : Value), [b])) (by first | rfl | (simp only [slotArgs]; rfl)) ?_)
      dsimp only
      refine wpAny_bind (wpAny_cRoomFor hu ?_)
      refine wpAny_bind (ifBound_K X I he hf (wpAny_mono h (fun v s' hv => ?_) fun _ _ e => e))
      obtain ⟨c, rfl, hq⟩ := hv
      dsimp only
      refine wpAny_bind (wpAny_truthy_bool ?_)
      exact wpAny_pure ⟨c, rfl, hq⟩
    have two : wpAny (model prog w) A (callSpecialIfBound? (.ref x) "__ne__" [b]) (fun r s' => ∃ c, r = some (.bool (!c)) ∧ Q (.bool (!c)) s') E s := by
      simp only [callSpecialIfBound?, bindSpecialIfBound?]
      refine wpAny_holding (wpAny_bind (wpAny_bind (wpAny_bind (I.type.here ((looks_findIn X hs).here ?_)))))
      simp only [PySem.F.slot_tuple_iterator_ne.bind]
      refine wpAny_bind (wpAny_askSetting (wpAny_ite ?_))
      have fin : wpAny (model prog w) A (call (.builtin "object.__ne__") ([.ref x] ++ [b]) >>= fun v => pure (some v)) (fun r s' => ∃ c, r = some (.bool (!c)) ∧ Q (.bool (!c)) s') E s :=
        wpAny_bind (wpAny_mono inner (fun v s' ⟨c, e, q⟩ => wpAny_pure ⟨c, by rw [e], q⟩) fun _ _ h' => h')
      split
      · exact wpAny_bind (wpAny_pure (wpAny_pure fin))
      · exact wpAny_tryCatch (wpAny_bind (wpAny_pure (wpAny_pure fin)))
    refine wpAny_bind (wpAny_mono two (fun v s' hv => ?_) fun _ _ e => e)
    obtain ⟨c, rfl, hq⟩ := hv
    exact wpAny_pure ⟨_, rfl, hq⟩
  unfold richCompare
  simp only [oneThing_ref]
  refine wpAny_holding (wpAny_bind (wpAny_cRoomFor (Nat.lt_of_succ_lt hu) ?_))
  refine wpAny_bind (I.type.here (wpAny_bind (hb.here ?_)))
  split
  · rename_i q
    have e : subIn K tb (.ref C) = some false := by
      rcases Bool.or_eq_true_iff.mp hn with e | e
      · rw [beq_iff_eq.mp e] at q; simp at q
      · exact beq_iff_eq.mp e
    refine wpAny_bind ((looks_subIn X e).here ?_)
    simp only [Bool.false_eq_true, if_false]
    refine wpAny_bind (wpAny_mono one (fun r s' z => ?_) fun _ _ e => e)
    obtain ⟨v, rfl, hq⟩ := z
    exact wpAny_pure hq
  · refine wpAny_bind (wpAny_pure ?_)
    simp only [Bool.false_eq_true, if_false]
    refine wpAny_bind (wpAny_mono one (fun r s' z => ?_) fun _ _ e => e)
    obtain ⟨v, rfl, hq⟩ := z
    exact wpAny_pure hq
end

/-- what the class at C must say for type(x) and isinstance -/
structure InsKit (K : PySem.W.Frag) (C : Addr) : Prop where
  cl : Cls K C
  ha : PySem.W.findIn K (.ref C) "__class__" = some (some (.builtin "object.__class__"))
  hn : PySem.W.specialIn K (.builtin "object.__class__") "__get__" = some (some (.builtin "getset_descriptor.__get__"))
  ht : PySem.W.takesIn K (.builtin "object.__class__") = some true
  hm : PySem.W.mroIn K C (.type "object") = some true
theorem InsKit.ty {K : PySem.W.Frag} {C a dx : Addr} {H : Hp} {fs : List (Str × V)} (k : InsKit K C) (e : H a = some (.ins C dx fs)) : TyX K H (.ref a) (.ref C) := .base (.ins e k.cl k.ha k.hn k.ht k.hm)
theorem TyX.tupT {K : PySem.W.Frag} {H : Hp} {a : Addr} {xs : List V} (h : SqT K H a xs) : TyX K H (.ref a) (.type "tuple") := by
  rcases h with (h | ⟨o, h⟩) | h
  · exact .base (.tup h)
  · exact .fTuple h
  · obtain ⟨o, its, n, h1, h2, _⟩ := h
    exact .kTuple h1 h2
/-- one == other, one != other by an own __eq__ that tells a bool -/
def rOwnE (K : PySem.W.Frag) (C : Addr) (sp : Sp) (E : XK) (neg : Bool) : R2 := fun x y H Q => ∃ a dx fs t, x = .ref a ∧ H a = some (.ins C dx fs) ∧ TyX K H y t ∧ PySem.W.notFirst K C t = true ∧ sp [x, y] H (fun v H' => ∃ c, v = .bl c ∧ Q (.bl (if neg then !c else c)) H') E
section
variable {X : Cx} {CX : CXT} {k : Nat} {C f : Addr} {fd : FuncData} {ps : List Str} {sp : Sp} {E : XK}
theorem op_ownEq (he : PySem.W.findIn X.K (.ref C) "__eq__" = some (some (.ref f))) (hf : PySem.W.isFn X.K (.ref f) = true) (F : FnOk X.prog X.w X.K X.mg X.base CX k f fd ps sp) (hr : Room k X.A) (hb : Binds X.K fd ps []) (hx : Passes CX X E) :
    OpR X (compareOp .Eq) (rOwnE X.K C sp E false) := by
  intro pins s σ H x y v u Q I rx ry h
  obtain ⟨a, dx, fs, t, rfl, ha, ty, hn, q⟩ := h
  cases rx
  obtain ⟨mA, O, _⟩ := ins_get I.hok ha
  obtain ⟨od, J, _⟩ := O.look
  obtain ⟨m, hF⟩ := I.fr
  obtain ⟨P, Z, hp, _⟩ := kit_of I ry ty
  show wpAny (model X.prog X.w) X.A (richCompare .Eq (.ref a) u) (EP X pins σ Q) X.xe s
  refine PySem.W.cmp_K (op := .Eq) hr.units0 hF I.ok.mod.kin J (Z.ty _ _ I.kIn hp) hn he hf ?_
  refine wpAny_mono (run_fn (us := [.ref a, u]) (vs := [.ref a, y]) (dvs := []) F hr hb .nil hx I (.cons rfl (.cons ry .nil)) q) (fun r s' hq => ?_) fun _ _ z => z
  obtain ⟨z, H', I', rz, c, ez, hz⟩ := hq
  subst ez
  cases rz
  exact ⟨.bl c, H', I', rfl, hz⟩
theorem op_ownNe (h0 : PySem.W.findIn X.K (.ref C) "__ne__" = some (some (.builtin "object.__ne__"))) (hmo : PySem.W.mroIn X.K C (.type "object") = some true)
    (he : PySem.W.findIn X.K (.ref C) "__eq__" = some (some (.ref f))) (hf : PySem.W.isFn X.K (.ref f) = true) (F : FnOk X.prog X.w X.K X.mg X.base CX k f fd ps sp) (hr : Room (k + 1) X.A) (hb : Binds X.K fd ps []) (hx : Passes CX X E) :
    OpR X (compareOp .NotEq) (rOwnE X.K C sp E true) := by
  intro pins s σ H x y v u Q I rx ry h
  obtain ⟨a, dx, fs, t, rfl, ha, ty, hn, q⟩ := h
  cases rx
  obtain ⟨mA, O, _⟩ := ins_get I.hok ha
  obtain ⟨od, J, _⟩ := O.look
  obtain ⟨P, Z, hp, _⟩ := kit_of I ry ty
  show wpAny (model X.prog X.w) X.A (richCompare .NotEq (.ref a) u) (EP X pins σ Q) X.xe s
  refine ne_K (Nat.lt_of_le_of_lt (Nat.add_le_add_left (by decide : 1 ≤ 64) _) hr.units) I.kIn J (Z.ty _ _ I.kIn hp) hn h0 he hf hmo ?_
  have r2 : Vals [V.ref a, y] [Value.ref a, u] := .cons rfl (.cons ry .nil)
  have hl : ([Value.ref a, u] : List Value).length = ps.length := by rw [← r2.length]; exact F.len _ _ _ _ q
  refine wpAny_call (codeAny_mono (F.run X.A.in1 X.stack s H ⟨[.ref a, u], []⟩ [.ref a, u] [.ref a, y] _ E hr.in1 I.env0.in1 (by simpa using hb s [.ref a, u] I.kIn (by simpa using hl)) r2 q) fun r s' hq => ?_)
  cases r with
  | error e => exact hx pins σ H s e s' I hq
  | ok fl =>
    cases fl with
    | ret w =>
      obtain ⟨z, H', I', rz, c, ez, hz⟩ := I.after hq
      subst ez
      cases rz
      exact ⟨c, rfl, .bl (!c), H', I', rfl, hz⟩
    | next => exact False.elim hq
    | brk => exact False.elim hq
    | cont => exact False.elim hq
end
end VR

namespace VR
open PySem PySem.Spec PyProof.Rows L2
theorem filterMap_cong {α β : Type} {f g : α → Option β} : ∀ {l : List α}, (∀ a, a ∈ l → f a = g a) → l.filterMap f = l.filterMap g
  | [], _ => rfl
  | a :: l, h => by
    rw [List.filterMap_cons, List.filterMap_cons, h a (List.mem_cons_self ..), filterMap_cong (l := l) fun b hb => h b (List.mem_cons_of_mem _ hb)]
section
open HT
variable {prog : Program} {w : World} {A : Around} {E : Value → Shared → Prop} {s : Shared}
theorem sliceApplied_rev {sl : Addr} {vs : Value} {n : Nat} {Q : Int × Int × Nat → Shared → Prop} (hs : s.heap.IsSliceOf sl .none .none vs) (ps : IsPart vs (some (-1)))
    (h : Q ((n : Int) - 1, -1, n) s) : wpAny (model prog w) A (Builtin.Slice.sliceApplied (.ref sl) (pure (n : Int))) Q E s := by
  obtain ⟨os, hos, hcs, hds⟩ := id hs
  unfold Builtin.Slice.sliceApplied Builtin.Slice.sliceFields
  refine wpAny_bind (wpAny_bind (wpAny_field hos hds (x := .none) rfl (wpAny_bind (wpAny_field hos hds (x := .none) rfl (wpAny_bind (wpAny_field hos hds (x := vs) rfl (wpAny_pure ?_)))))))
  refine wpAny_bind (slicePart_ ps ?_)
  show wpAny _ _ (if ((-1 : Int) == 0) = true then _ else _) _ _ s
  rw [if_neg (by decide)]
  refine wpAny_bind (slicePart_ .none (wpAny_bind (slicePart_ .none (wpAny_bind (wpAny_pure ?_)))))
  show wpAny _ _ (match Builtin.Slice.sliceAdjust none none (-1) (n : Int) with | (lo, hi) => pure (lo, (-1 : Int), Builtin.Slice.slicePlaces lo hi (-1))) _ _ s
  have e1 : Builtin.Slice.sliceAdjust none none (-1) (n : Int) = ((n : Int) - 1, -1) := by
    unfold Builtin.Slice.sliceAdjust
    have h1 : ((-1 : Int) < 0) := by decide
    simp only [h1, if_true]
  have e2 : Builtin.Slice.slicePlaces ((n : Int) - 1) (-1) (-1) = n := by
    unfold Builtin.Slice.slicePlaces
    have h1 : ¬ ((-1 : Int) > 0) := by decide
    have h2 : (-(-1 : Int)) = 1 := by decide
    simp only [h1, if_false, h2, Int.ediv_one]
    split <;> omega
  rw [e1]
  show wpAny _ _ (pure ((n : Int) - 1, (-1 : Int), Builtin.Slice.slicePlaces ((n : Int) - 1) (-1) (-1))) _ _ s
  rw [e2]
  exact wpAny_pure h
theorem pick_rev (xs : Array Value) : ((List.range xs.size).filterMap fun (m : Nat) => xs[(((xs.size : Int) - 1) + (m : Int) * (-1)).toNat]?).toArray = xs.toList.reverse.toArray := by
  have e : ∀ m, m ∈ List.range xs.size → xs[(((xs.size : Int) - 1) + (m : Int) * (-1)).toNat]? = xs[xs.size - 1 - m]? := by
    intro m hm
    have := List.mem_range.mp hm
    have q : (((xs.size : Int) - 1) + (m : Int) * (-1)).toNat = xs.size - 1 - m := by omega
    rw [q]
  have e3 : ((List.range xs.size).filterMap fun (m : Nat) => xs[(((xs.size : Int) - 1) + (m : Int) * (-1)).toNat]?) = (List.range xs.size).filterMap fun m => xs[xs.size - 1 - m]? :=
    filterMap_cong e
  rw [e3]
  have e4 : ((List.range xs.size).filterMap fun m => xs[xs.size - 1 - m]?) = ((List.range xs.size).map fun k => xs.size - 1 - k).filterMap (xs[·]?) := by
    rw [List.filterMap_map]; rfl
  rw [e4, PySem.W.krv_range, List.filterMap_reverse, PySem.W.krv_all]
theorem getItem_tuple_rev {t sl : Addr} {items : Array Value} {vs : Value} {Q : Value → Shared → Prop} (ht : IsTup s.heap t items) (hs : s.heap.IsSliceOf sl .none .none vs) (ps : IsPart vs (some (-1)))
    (h : Q (.ref s.heap.objs.size) { s with heap := s.heap.push { cls := .type "tuple", data := .seq items.toList.reverse.toArray } })
    (hsz : items.size ≤ sizeLine) : wpAny (model prog w) A (getItem (.ref t) (.ref sl)) Q E s := by
  have htake : sizeOk (.seq items.toList.reverse.toArray) := by
    show items.toList.reverse.toArray.size ≤ sizeLine
    rw [List.size_toArray, List.length_reverse, Array.length_toList]
    exact hsz
  obtain ⟨os, hos, hcs, hds⟩ := id hs
  have hTs : s.TypeIs (.ref sl) "slice" := ⟨os, hos, hcs⟩
  unfold getItem
  try with_reducible refine wpAny_holding ?_
  first | refine wpAny_bind (wpAny_pure ?_) | skip
  refine wpAny_bind (wpAny_sequenceKey ht.typeIs (by decide) ?_)
  refine wpAny_bind (wpAny_callSpecial?_slot (name := Str.ofString "__getitem__") ht.typeIs PyProof.Rows.slot_tuple_getitem
    (wpAny_call_entry PyProof.Rows.slot_tuple_getitem ht.typeIs entry_tuple_getitem ?_ (args_tuple_getitem _ _)))
  show wpAny _ _ (Builtin.Tuple.tupleItemsOf (.ref t) >>= _) _ _ s
  refine wpAny_bind (tupleItemsOf_ ht ?_)
  refine wpAny_bind (wpAny_typeOf hTs ?_)
  rw [if_pos (by decide)]
  refine wpAny_bind (sliceApplied_rev hs ps ?_)
  have hno : ¬ ((((items.size : Int) - 1) == 0 && (-1 : Int) == 1 && items.size == items.size) = true) := by
    intro q
    rw [Bool.and_eq_true, Bool.and_eq_true] at q
    exact absurd q.1.2 (by decide)
  show wpAny _ _ (if (((items.size : Int) - 1) == 0 && (-1 : Int) == 1 && items.size == items.size) = true then _ else _) _ _ s
  rw [if_neg hno, pick_rev]
  first
    | exact wpAny_bind (m := Builtin.Tuple.tupleExact _) (wpAny_newObj_type (wpAny_pure ⟨_, rfl, wpAny_pure h⟩) htake)
    | exact wpAny_bind (m := Builtin.Tuple.tupleExact _) (wpAny_newObj_type (wpAny_bind (wpAny_pure (wpAny_pure ⟨_, rfl, wpAny_pure h⟩))) htake)
    | exact wpAny_bind (wpAny_bind (m := Builtin.Tuple.tupleExact _) (wpAny_newObj_type (wpAny_pure (wpAny_pure ⟨_, rfl, wpAny_pure h⟩)) htake))
    | exact wpAny_bind (wpAny_bind (m := Builtin.Tuple.tupleExact _) (wpAny_newObj_type (wpAny_pure ⟨_, rfl, wpAny_pure h⟩) htake))
end
/-- t[::-1], a tuple -/
def tRevT (K : PySem.W.Frag) (te : TE) : TE := fun σ H Q => te σ H fun x H1 => ∃ a xs, x = .ref a ∧ SqT K H1 a xs ∧ ∀ p, H1 p = none → Q (.ref p) (upd H1 p (.tup xs.reverse))
theorem pe_revT {X : Cx} {e : Expr} {te : TE} {k : Nat} {p1 p2 p3 pos : Pos} (he : PE X e te) : PE X (.Subscript e (.Slice none none (some (.UnaryOp .USub (.Constant (.int 1) k p1) p2)) p3) pos) (tRevT X.K te) := by
  refine ⟨fun pins s σ H Q I h => ?_⟩
  refine Subscript_ (thn (he.run pins s σ H _ I h) fun v s1 ⟨x, H1, I1, r1, q1⟩ => ?_)
  obtain ⟨a, xs, ex, hx, q⟩ := q1
  subst ex
  cases r1
  have hst : PO X (some (.UnaryOp .USub (.Constant (.int 1) k p1) p2)) (tPart (tUn (rU fun i => .int (-i)) (tC (.int 1)))) := po_some (pe_un un_neg pe_int)
  refine wpAny_Slice (thn (po_none.run pins s1 σ H1 (fun o H2 => o = none ∧ H2 = H1) I1 ⟨rfl, rfl⟩) fun vl s2 ⟨l, H2, I2, pl, el, e2⟩ => ?_)
  subst el e2
  refine thn (po_none.run pins s2 σ H2 (fun o H3 => o = none ∧ H3 = H2) I2 ⟨rfl, rfl⟩) fun vu s3 ⟨u, H3, I3, pu, eu, e3⟩ => ?_
  subst eu e3
  refine thn (hst.run pins s3 σ H3 (fun o H4 => o = some (-1) ∧ H4 = H3) I3 ⟨1, rfl, -1, rfl, rfl, rfl⟩) fun vs s4 ⟨o, H4, I4, ps, eo, e4⟩ => ?_
  subst eo e4
  have I5 : Inv X pins σ H4 { s4 with heap := s4.heap.push { cls := .type "slice", data := .fields #[vl, vu, vs] } } := I4.kept (t' := s4.toks) fun b ob q => Heap.get?_push_of_some _ q
  obtain ⟨its, r, ht, hz⟩ := I5.tuple hx
  have hlen := r.length
  cases pl
  cases pu
  show wpAny (model X.prog X.w) X.A (subscriptTail e (.Slice none none (some (.UnaryOp .USub (.Constant (.int 1) k p1) p2)) p3) (.ref a) (.ref s4.heap.objs.size)) (EP X pins σ Q) X.xe { s4 with heap := s4.heap.push { cls := .type "slice", data := .fields #[.none, .none, vs] } }
  refine tail_any (ops := [.ref a, .ref s4.heap.objs.size]) ht.typeIs (PyProof.Rows.slot_tuple_getitem.lookup) ?_ (by with_unfolding_all rfl)
  refine getItem_tuple_rev ht (Heap.IsSliceOf.new _ .none .none vs) ps ?_ (by rw [List.size_toArray]; omega)
  refine ⟨.ref _, _, I5.laid (t' := s4.toks) (o := .tup xs.reverse) (fun b ob q => Heap.get?_push_of_some _ q) (Nat.le_refl _) ?_, rfl, q _ (I5.hok.fresh (Nat.le_refl _))⟩
  exact ⟨by rw [List.length_reverse]; exact hz, _, r.reverse, IsTup.new _ _⟩
end VR

/-! Small words: lists of ints as values, heaps that grow. -/
namespace VR
open PySem PySem.Spec PyProof.Rows L2
def iz (xs : List Int) : List V := xs.map V.int
theorem iz_get {xs : List Int} {i : Nat} {x : Int} (h : xs[i]? = some x) : (iz xs)[i]? = some (V.int x) := by unfold iz; rw [List.getElem?_map, h]; rfl
theorem of_iz_get {xs : List Int} {i : Nat} {v : V} (h : (iz xs)[i]? = some v) : ∃ x, xs[i]? = some x ∧ v = V.int x := by
  unfold iz at h
  rw [List.getElem?_map] at h
  cases e : xs[i]? with
  | none => rw [e] at h; cases h
  | some x => rw [e] at h; exact ⟨x, rfl, (Option.some.inj h).symm⟩
theorem iz_len (xs : List Int) : (iz xs).length = xs.length := by simp [iz]
theorem iz_set (xs : List Int) (j : Nat) (x : Int) : (iz xs).set j (V.int x) = iz (xs.set j x) := by simp [iz, List.map_set]
theorem smallL {n : Nat} (h : n ≤ 10000) : n ≤ sizeLine := by rw [sizeLine_eq]; omega
theorem _root_.L2.Same.tup {K : PySem.W.Frag} {H H' : Hp} {a : Addr} {xs : List V} (e : Same H H') (h : SqT K H a xs) : SqT K H' a xs := by
  rcases h with (h | ⟨o, h⟩) | h
  · exact .inl (.inl (e _ _ h))
  · exact .inl (.inr ⟨o, e _ _ h⟩)
  · exact .inr h
theorem _root_.L2.Same.new {H : Hp} {p : Addr} {o : HO} (h : H p = none) : Same H (upd H p o) := fun b u e => by rw [upd_ne (ne_of_none e h)]; exact e
theorem _root_.L2.Same.upd0 {H H' : Hp} {l : Addr} {o : HO} (e : Same H H') (h : H l = none) : Same H (upd H' l o) := fun b u q => by rw [upd_ne (ne_of_none q h)]; exact e b u q
theorem _root_.L2.Same.upN {H H' : Hp} {l : Addr} {o : HO} (e : Same H H') (h : H' l = none) : Same H (upd H' l o) := e.trans (L2.Same.new h)
theorem ite_max (a b : Nat) : (if (b : Int) > (a : Int) then V.int (b : Int) else V.int (a : Int)) = V.int ((max a b : Nat) : Int) := by
  split <;> congr 1 <;> omega
theorem iz_rep (n : Nat) : (List.replicate n [V.int 0]).flatten = iz (List.replicate n 0) := by
  induction n with
  | zero => rfl
  | succ n ih => rw [List.replicate_succ, List.flatten_cons, ih, List.replicate_succ]; rfl
theorem ixN_nat {n k : Nat} (h : k < n) : ixN n (k : Int) = some k := by
  unfold ixN
  rw [if_pos (by omega), if_pos (by omega)]
  simp

/-- a store to an object that is no tuple leaves the tuples -/
theorem _root_.L2.SqT.updNT {K : PySem.W.Frag} {H : Hp} {a p : Addr} {xs : List V} {o u : HO} (h : SqT K H a xs) (hp : H p = some u) (nt : ∀ ys, u ≠ .tup ys) (nf : ∀ ob v, u ≠ .frz ob v) : SqT K (upd H p o) a xs := by
  rcases h with (h | ⟨ob, h⟩) | h
  · exact .inl (.inl (by rw [upd_ne (ne_of h hp fun e => nt _ e.symm)]; exact h))
  · exact .inl (.inr ⟨ob, by rw [upd_ne (ne_of h hp fun e => nf _ _ e.symm)]; exact h⟩)
  · exact .inr h
theorem _root_.L2.SqT.updIns {K : PySem.W.Frag} {H : Hp} {a p C dx : Addr} {xs : List V} {o : HO} {fs : List (Str × V)} (h : SqT K H a xs) (hp : H p = some (.ins C dx fs)) : SqT K (upd H p o) a xs := h.updNT hp (fun _ e => nomatch e) (fun _ _ e => nomatch e)
end VR

/-! Tuples of ints as data. -/
namespace VR
open PySem PySem.Spec PyProof.Rows L2
def dI (xs : List Int) : PyData := .tuple (xs.map PyData.int)
theorem eqvAll_ints : ∀ xs ys : List Int, PyData.eqvAll (xs.map PyData.int) (ys.map PyData.int) = decide (xs = ys)
  | [], [] => by simp [PyData.eqvAll]
  | [], _ :: _ => by simp [PyData.eqvAll]
  | _ :: _, [] => by simp [PyData.eqvAll]
  | x :: xs, y :: ys => by
    rw [List.map_cons, List.map_cons, PyData.eqvAll, eqvAll_ints xs ys, PyData.eqv]
    by_cases h : x = y <;> by_cases g : xs = ys <;> simp [h, g]
theorem eqv_ints (xs ys : List Int) : PyData.eqv (dI xs) (dI ys) = decide (xs = ys) := by
  unfold dI
  rw [PyData.eqv, eqvAll_ints]
theorem canAll_ints : ∀ xs : List Int, PyData.canLayAll0 (xs.map PyData.int) = true
  | [] => by simp [PyData.canLayAll0]
  | x :: xs => by rw [List.map_cons, PyData.canLayAll0, canAll_ints xs, PyData.canLay0]; rfl
theorem depth_ints : ∀ xs : List Int, PyData.depthAll (xs.map PyData.int) = 0
  | [] => by simp [PyData.depthAll]
  | x :: xs => by rw [List.map_cons, PyData.depthAll, depth_ints xs, PyData.depth]; rfl
theorem shaped_ints (xs : List Int) : SeqAt.shaped (dI xs) = true := by
  unfold SeqAt.shaped dI
  rw [PyData.canLay0, canAll_ints, PyData.depth, depth_ints]
  rfl
theorem dpAll_ints {K : PySem.W.Frag} {H : Hp} : ∀ xs : List Int, DpAll K H (iz xs) (xs.map PyData.int)
  | [] => .nil
  | x :: xs => .cons (.int x) (dpAll_ints xs)
theorem dp_ints {K : PySem.W.Frag} {H : Hp} {a : Addr} {xs : List Int} (h : SqT K H a (iz xs)) : Dp K H (.ref a) (dI xs) := .tup h (dpAll_ints xs)
/-- a term of types for isinstance -/
theorem kit_cls_ref {K : PySem.W.Frag} {C : Addr} {t : Value} {b : Bool} (h1 : PySem.W.isClsIn K C = true) (h2 : PySem.W.typeIn K (.ref C) = some (.type "type")) (h3 : (t == .ref C) = false) (h4 : PySem.W.subIn K t (.ref C) = some b) : PySem.W.kitOne K t (.ref C) = some b := by
  unfold PySem.W.kitOne PySem.W.kitCls
  have h1' : (PySem.W.clsIn K C).isSome = true := h1
  rw [h3, if_neg (by decide)]
  show (if ((PySem.W.clsIn K C).isSome && PySem.W.typeIn K (Value.ref C) == some (Value.type "type")) = true then PySem.W.subIn K t (Value.ref C) else none) = some b
  rw [h1', h2, if_pos (by rfl), h4]
theorem kit_self {K : PySem.W.Frag} {t : Value} (h : (t == t) = true) : PySem.W.kitOne K t t = some true := by
  unfold PySem.W.kitOne
  rw [if_pos h]
end VR

/-! Own exceptions with their own __init__, as values. -/
namespace VX
open PySem PySem.W PySem.Calls PyProof.Rows PySem.HandSPX Builtin Builtin.ObjectAttr
section
variable {prog : Program} {w : World} {M : Model} {A : Around} {E : Value → Shared → Prop} {R : Result → Shared → Prop} {h : Heap} {g : Array GenState} {d : Drawn} {t : Nat} {os : OsState}
variable {nm q : Str} {C N : Addr} {bs bm bmB : List Value} {hdct : Bool} {sn : List Str} {sub : List Value} {ab : Bool} {col : Option Bool} {dd : Option Addr} {k0 k1 k2 k3 k5 : Option Value} {B newId initId : String}
theorem newC (F : ExcBaseFacts B newId initId bmB) (hT : ∀ Y : String, bm.contains (.type Y) = bmB.contains (.type Y)) {us : List Value} {kw : List (Str × Value)} {Q : Unit → Shared → Prop}
    (hC : h.get? C = some (excClassObj nm q C N bs bm hdct sn sub ab col dd k0 k1 k2 k3 k5 newId)) (hq : Q () ⟨h, g, d, t, os⟩) : wpAny M A (checkBuiltinCall newId ⟨.ref C :: us, kw⟩) Q E ⟨h, g, d, t, os⟩ := by
  have z1 : (Value.ref C :: bm).contains (.type B) = true := by rw [List.contains_cons, hT, F.hasB, Bool.or_true]
  have z2 := F.noStar
  simp only [checkBuiltinCall, F.newKind, F.newSplit, F.newRow]
  repeat (first | refine wpAny_loadPart_at hC ?_ | (refine wpAny_isSubtype_exc hC ?_; rw [z1]) | refine wpAny_staticBase_exc hC ?_ | refine wpAny_madeBy_exc hC ?_ | simp only [bne_self_eq_false, Bool.false_eq_true, if_false] | wp_step)
  exact hq
end
section
variable {prog : Program} {w : World} {A : Around} {E : Value → Shared → Prop} {R : Result → Shared → Prop} {h : Heap} {g : Array GenState} {d : Drawn} {t : Nat} {os : OsState}
variable {nm q : Str} {C N : Addr} {bs bm bmB : List Value} {hdct : Bool} {sn : List Str} {sub : List Value} {ab : Bool} {col : Option Bool} {dd : Option Addr} {k0 k1 k2 k3 k5 : Option Value} {B newId initId : String}
theorem newR (F : ExcBaseFacts B newId initId bmB) (hT : ∀ Y : String, bm.contains (.type Y) = bmB.contains (.type Y)) {us : List Value} {kw : List (Str × Value)}
    (hC : h.get? C = some (excClassObj nm q C N bs bm hdct sn sub ab col dd k0 k1 k2 k3 k5 newId))
    (hq : R (.ok (.ret (.ref (h.objs.size + 1)))) ⟨(h.push { cls := .type "tuple", data := .seq us.toArray }).push (excO C h.objs.size), g, d, t, os⟩) (hz : us.length ≤ sizeLine) :
    codeAny (model prog w) A (.builtin newId ⟨.ref C :: us, kw⟩) R ⟨h, g, d, t, os⟩ := by
  have z0 := F.ends
  have z1 : (Value.ref C :: bm).contains (.type B) = true := by rw [List.contains_cons, hT, F.hasB, Bool.or_true]
  have z2 : (Value.ref C :: bm).contains (.type "AttributeError") = false := by rw [List.contains_cons, hT, F.noAttr]; rfl
  have z3 : (Value.ref C :: bm).contains (.type "NameError") = false := by rw [List.contains_cons, hT, F.noName]; rfl
  refine codeAny_builtinAt F.entry ?_
  unfold Builtin.«BaseException.__new__»
  refine PySem.wpAt_bind ?_
  show PySem.wpAt _ _ _ (stack >>= _) _ _ _
  refine PySem.wpAt_bind (PySem.wpAt_stack fun p below => PySem.wpAt_of_wpAny ?_)
  wp_walk
  refine PySem.wpAt_of_wpAny ?_
  rw [F.owner]
  repeat (first | with_reducible refine wpAny_madeHere_exc F.canon hC ?_ | with_reducible refine wpAny_loadPart_at hC ?_ | (with_reducible refine wpAny_isSubtype_exc hC ?_; first | rw [z1] | rw [z2] | rw [z3]) | wp_step)
  show R _ _
  rw [Heap.size_push]
  exact hq
theorem tcR (F : ExcBaseFacts B newId initId bmB) (hT : ∀ Y : String, bm.contains (.type Y) = bmB.contains (.type Y)) {us : List Value} {kw : List (Str × Value)} {fI : Addr} {Q : Fin → Shared → Prop}
    (hC : h.get? C = some (excClassObj nm q C N bs bm hdct sn sub ab col dd k0 k1 k2 k3 k5 newId))
    (hi : W.Looks (model prog w) h (typeLookup (.ref C) "__init__") (some (.ref fI))) (hb : ∀ self, W.Looks (model prog w) h (bindSpecial (.ref fI) self) (.ref fI, [self])) (hz : us.length ≤ sizeLine)
    (hq : codeAny (model prog w) A (.call (.ref fI) ⟨.ref (h.objs.size + 1) :: us, kw⟩)
      (fun r s' => match r with | .ok (.ret v) => v = .none ∧ Q (.done (.ret (.ref (h.objs.size + 1)))) s' | .ok _ => False | .error e => E e s')
      ⟨(h.push (W.kdv_tup us)).push (excO C h.objs.size), g, d, t, os⟩) :
    wpAny (model prog w) A (Builtin.«type.__call__» ⟨.ref C :: us, kw⟩) Q E ⟨h, g, d, t, os⟩ := by
  repeat (first | with_reducible refine wpAny_loadPart_at hC ?_ | with_reducible refine wpAny_madeBy_exc hC ?_ | wp_step)
  refine codeAny_call_builtin_code (Code.quiet_builtin _ F.quiet) (newC F hT hC ?_)
  refine newR F hT hC ?_ hz
  show wpAny _ _ _ _ _ _
  have k : ∀ b o, h.get? b = some o → ((h.push (W.kdv_tup us)).push (excO C h.objs.size)).get? b = some o := fun b o e => Heap.get?_push_of_some _ (Heap.get?_push_of_some _ e)
  have y1 := k _ _ hC
  have y2 : ((h.push (W.kdv_tup us)).push (excO C h.objs.size)).get? (h.objs.size + 1) = some (excO C h.objs.size) := by heap_get
  have y3 : (Value.ref C :: bm).contains (.ref C) = true := by simp
  have i1 := hi.keeps k
  have b1 := (hb (.ref (h.objs.size + 1))).keeps k
  unfold isInstance
  repeat (first | with_reducible refine wpAny_loadPart_at y2 ?_ | (with_reducible refine wpAny_isSubtype_exc y1 ?_; rw [y3]) | wp_step)
  show wpAny _ _ (typeLookup (.ref C) _) _ _ _
  refine i1.at ?_
  refine wpAny_holding (wpAny_bind (b1.at ?_))
  refine wpAny_bind (wpAny_call (codeAny_mono hq fun r s' z => ?_))
  rcases r with e | (v | _ | _ | _) <;> first | exact z | exact z.elim | skip
  obtain ⟨rfl, z⟩ := z
  first
    | exact wpAny_pure (wpAny_pure z)
    | (wp_walk; exact z)
theorem tcC {M : Model} {us : List Value} {kw : List (Str × Value)} {Q : Unit → Shared → Prop} (hC : h.get? C = some (excClassObj nm q C N bs bm hdct sn sub ab col dd k0 k1 k2 k3 k5 newId))
    (hq : Q () ⟨h, g, d, t, os⟩) : wpAny M A (checkBuiltinCall "type.__call__" ⟨.ref C :: us, kw⟩) Q E ⟨h, g, d, t, os⟩ := by
  have z1 := tc_sub
  have z2 : (⟨h, g, d, t, os⟩ : Shared).TypeIs (.ref C) "type" := ⟨_, hC, rfl⟩
  simp only [checkBuiltinCall, tc_kind, tc_split]
  repeat (any_goals (first | assumption | with_reducible refine wpAny_loadPart_at hC ?_ | with_reducible refine wpAny_onRaise ?_ | with_reducible refine wpAny_map ?_ | wp_step))
/-- C(.., k = v, ..): the exception's own __init__ is called with the same -/
theorem callX (F : ExcBaseFacts B newId initId bmB) (hT : ∀ Y : String, bm.contains (.type Y) = bmB.contains (.type Y)) {us : List Value} {kw : List (Str × Value)} {fI : Addr}
    (hC : h.get? C = some (excClassObj nm q C N bs bm hdct sn sub ab col dd k0 k1 k2 k3 k5 newId))
    (hi : W.Looks (model prog w) h (typeLookup (.ref C) "__init__") (some (.ref fI))) (hb : ∀ self, W.Looks (model prog w) h (bindSpecial (.ref fI) self) (.ref fI, [self])) (hz : us.length ≤ sizeLine)
    (hq : codeAny (model prog w) (A.under (.builtin "type.__call__" ⟨.ref C :: us, kw⟩)) (.call (.ref fI) ⟨.ref (h.objs.size + 1) :: us, kw⟩) (W.InitBack (h.objs.size + 1) R)
      ⟨(h.push (W.kdv_tup us)).push (excO C h.objs.size), g, d, t, os⟩) :
    codeAny (model prog w) A (.call (.ref C) ⟨us, kw⟩) R ⟨h, g, d, t, os⟩ := by
  have f1 := tc_lookup
  have f2 := tc_bind (.ref C)
  have z2 : (⟨h, g, d, t, os⟩ : Shared).TypeIs (.ref C) "type" := ⟨_, hC, rfl⟩
  refine codeAny_of_tree ?_
  show wpAny _ _ (callAny (.ref C) _) _ _ _
  repeat (any_goals (first | assumption | with_reducible refine wpAny_loadPart_at hC ?_ | wp_step))
  refine ⟨rfl, ?_⟩
  refine codeAny_call_builtin_at (Code.quiet_builtin _ (by decide +kernel)) entry_typeCall (tcC hC (tcR F hT hC hi hb hz ?_))
  refine codeAny_mono hq fun r s' z => ?_
  rcases r with e | (v | _ | _ | _) <;> exact z
end
end VX

namespace VX
open PySem PySem.W PySem.Calls PyProof.Rows PySem.HandSPX Builtin Builtin.ObjectAttr
section
variable {prog : Program} {w : World} {A : Around} {R : Result → Shared → Prop} {hp : Heap} {g : Array GenState} {d : Drawn} {t : Nat} {os : OsState}
/-- self.x = v on an exception without a dict, whatever its built-in base -/
theorem osaX {K : W.Frag} {name : Str} {tk : Tok} {v : Value} {x C : Addr} {fv : Array Value} {cd : ClassData}
    (X : K.In hp) (hx : hp.get? x = some { cls := .ref C, data := .fields fv }) (hcd : W.clsIn K C = some cd) (ne : cd.mro.isEmpty = false) (hob : cd.mro.contains (.type "object") = true)
    (hr : ∀ self, refuseLoop self "__setattr__" cd.mro = pure ()) (hh : cd.hasDict = true) (ha : W.findIn K (.ref C) name = some none)
    (hq : ∀ h' tk' dx, (∀ b o, b ≠ x → hp.get? b = some o → h'.get? b = some o) → hp.objs.size ≤ dx → dx ≠ x → h'.get? x = some { cls := .ref C, dict := some dx, data := .fields fv } →
      h'.Ns1 dx (fun y => if y = name then some v else none) → R (.ok (.ret .none)) ⟨h', g, d, tk', os⟩) :
    codeAny (model prog w) A (.call (.builtin "object.__setattr__") ⟨[.ref x, .str name tk, v], []⟩) R ⟨hp, g, d, t, os⟩ := by
  have I : W.InstAt hp x { cls := .ref C, data := .fields fv } C none := ⟨hx, rfl, rfl, trivial⟩
  have F := PySem.F.store_object
  have dif : hp.objs.size ≠ x := (Nat.ne_of_lt (Heap.lt_size hx)).symm
  have isob : W.Looks (model prog w) hp (isInstance (.ref x) (.type "object")) true := I.type.andThen (W.looks_mroIn X (by unfold W.mroIn; rw [hcd, Option.bind_some, if_neg (by rw [ne]; decide), hob]))
  refine codeAny_call_builtin F.slot.plain F.entry (@W.check_slot (model prog w) _ _ ⟨hp, g, d, t, os⟩ "object.__setattr__" "object" "__setattr__" (.ref x) [.str name tk, v] [] _ F.kind F.split isob (F.args (.ref x) (.str name tk) v) ?_)
  have lm : W.Looks (model prog w) hp (mroOf (.ref C)) cd.mro := (W.looks_clsIn X hcd).andThen .now
  have lt : W.Looks (model prog w) hp (storeTaker? none) none := .now
  have lc : W.Looks (model prog w) hp (classData C) cd := W.looks_clsIn X hcd
  rw [W.osa_eq, refuse_eq]
  refine wpAny_bind (wpAny_bind (I.type.at (wpAny_bind (lm.at ?_))))
  rw [hr]
  refine wpAny_pure (wpAny_bind (I.type.at (wpAny_bind ((W.looks_findIn X ha).at (wpAny_bind (lt.at ?_))))))
  show wpAny _ _ (storeInOwnDict (.ref x) (.ref C) (.str name tk) name v false) _ _ _
  obtain ⟨nm, bs, mro, ns, qn, hd, sn, sb, ab, col, del⟩ := cd
  dsimp only at hh
  subst hh
  unfold storeInOwnDict ownDictForStores
  repeat (first | with_reducible refine store_in_new ?_ ?_ | with_reducible refine wpAny_loadPart_at hx ?_ | with_reducible refine lc.at ?_ | wp_step)
  · exact ⟨_, #[], _, (Heap.get?_update_ne _ _ _ _ dif).trans (Heap.get?_push_at rfl rfl), rfl, fun e he => absurd he (by simp), fun _ => rfl⟩
  · intro h' tk' hn' hs
    have x1 : (hp.push { cls := .type "dict", data := .dict #[] }).get? x = some { cls := .ref C, data := .fields fv } := Heap.get?_push_of_some _ hx
    refine hq h' tk' hp.objs.size (fun b o hb ho => ?_) (Nat.le_refl _) dif ?_ hn'
    · exact (hs.2 b (Nat.ne_of_lt (Heap.lt_size ho))).trans ((Heap.get?_update_ne _ _ _ _ hb).trans (Heap.get?_push_of_some _ ho))
    · exact (hs.2 x dif.symm).trans (Heap.get?_update_self _ x1 rfl)
end
end VX
namespace VX
open PySem PySem.Spec PyProof.Rows L2 VR

/-- an own exception class with an own __init__, no matter which built-in class it hangs on -/
structure OxC (K : PySem.W.Frag) (C : Addr) : Prop where
  cls : ∃ nm q N bs bm sn sub ab col dd k0 k1 k2 k3 k5 B newId initId bmB, ExcBaseFacts B newId initId bmB ∧ K.lookup C = some (excClassObj nm q C N bs bm true sn sub ab col dd k0 k1 k2 k3 k5 newId) ∧
    (∀ Y : String, bm.contains (.type Y) = bmB.contains (.type Y)) ∧ (∀ self, refuseLoop self "__setattr__" (.ref C :: bm) = pure ()) ∧ bm.contains (.type "object") = true
  sa : PySem.W.findIn K (.ref C) "__setattr__" = some (some (.builtin "object.__setattr__"))
  kC : PySem.W.keepIn K (.ref C) = true
  ga : PySem.W.findIn K (.ref C) "__getattribute__" = some (some (.builtin "BaseException.__getattribute__"))
  gg : PySem.W.findIn K (.ref C) "__getattr__" = some none
  ex : PySem.W.subIn K (.ref C) (.type "BaseException") = some true
  ac : PySem.W.findIn K (.ref C) "__class__" = some (some (.builtin "object.__class__"))
  an : PySem.W.specialIn K (.builtin "object.__class__") "__get__" = some (some (.builtin "getset_descriptor.__get__"))
  tk : PySem.W.takesIn K (.builtin "object.__class__") = some true
  mo : PySem.W.mroIn K C (.type "object") = some true
theorem OxC.cin {K : PySem.W.Frag} {C : Addr} (T : OxC K C) : (PySem.W.clsIn K C).isSome = true := by
  obtain ⟨nm, q, N, bs, bm, sn, sub, ab, col, dd, k0, k1, k2, k3, k5, B, ni, ii, bmB, _, hC, _⟩ := T.cls
  unfold PySem.W.clsIn; rw [hC]; rfl
theorem OxC.hd {K : PySem.W.Frag} {C : Addr} (T : OxC K C) : PySem.W.hasDictIn K C = true := by
  obtain ⟨nm, q, N, bs, bm, sn, sub, ab, col, dd, k0, k1, k2, k3, k5, B, ni, ii, bmB, _, hC, _⟩ := T.cls
  unfold PySem.W.hasDictIn PySem.W.clsIn; rw [hC]; rfl
/-- an exception of the class at C, its one field f holding v -/
def ExAt (H : Hp) (x : V) (C : Addr) (f : Str) (v : V) : Prop := ∃ a dx : Addr, x = .ref a ∧ H a = some (exo a C (some dx)) ∧ H dx = some (exd dx [(f, v)])
theorem ExAt.same {H H' : Hp} {x v : V} {C : Addr} {f : Str} (h : ExAt H x C f v) (s : Same H H') : ExAt H' x C f v := by
  obtain ⟨a, dx, e, h1, h2⟩ := h
  exact ⟨a, dx, e, s _ _ h1, s _ _ h2⟩
/-- self.f = e in such an __init__ -/
def tOx (K : PySem.W.Frag) (f : Str) (to te : TE) : TS := fun D σ H => te σ H fun y H1 => to σ H1 fun x H2 => ∃ a C : Addr, x = .ref a ∧ OxC K C ∧ PySem.W.findIn K (.ref C) f = some none ∧
  H2 a = some (exo a C none) ∧ ∀ dx, H2 dx = none → dx ≠ a → D.nx σ (upd (upd H2 dx (exd dx [(f, y)])) a (exo a C (some dx)))
section
variable {X : Cx} {pins : List (Addr × Obj)} {σ : L2.St} {H : Hp} {s : Shared} {a C dx : Addr} {f : Str} {y : V} {u : Value} {E : Value → Shared → Prop} {A : Around}
theorem putX {Q : Unit → Shared → Prop} (T : OxC X.K C) (I : Inv X pins σ H s) (e : H a = some (exo a C none)) (hno : PySem.W.findIn X.K (.ref C) f = some none) (ry : RelV y u)
    (h : ∀ dx s', H dx = none → dx ≠ a → Inv X pins σ (upd (upd H dx (exd dx [(f, y)])) a (exo a C (some dx))) s' → Q () s') : wpAny (model X.prog X.w) A (setAttr (.ref a) f u) Q E s := by
  obtain ⟨nm, q, N, bs, bm, sn, sub, ab, col, dd, k0, k1, k2, k3, k5, B, ni, ii, bmB, _, hC, _, hr, hob⟩ := T.cls
  have hcl : PySem.W.clsIn X.K C = some { name := nm, bases := bs, mro := .ref C :: bm, ns := N, qualname := q, hasDict := true, slotNames := sn, subclasses := sub, abstract := ab, collection := col, hasDel := false } := by unfold PySem.W.clsIn; rw [hC] <;> rfl
  obtain ⟨t1, ho⟩ := exo_at I.hok e
  obtain ⟨hp, g, d, t, os⟩ := s
  refine PySem.W.set_plain I.kIn (ox := { cls := .ref C, dict := none, data := .fields #[.ref t1, .none, .none, .none, .bool false, .none] }) (od := none) ⟨ho, rfl, rfl, trivial⟩ T.sa ?_
  refine osaX I.kIn ho hcl rfl (by show (Value.ref C :: bm).contains (.type "object") = true; rw [List.contains_cons, hob, Bool.or_true]) hr rfl hno (fun h' tk' dx k dn dne hx hn => ?_)
  have gone : H dx = none := I.hok.fresh dn
  have low : ∀ {b : Addr} {o : Obj}, hp.get? b = some o → b ≠ dx := fun {b o} q => Nat.ne_of_lt (Nat.lt_of_lt_of_le (Heap.lt_size q) dn)
  have apart : ∀ {b : Addr}, H b = none → b ≠ a := fun {b} n z => by
    rw [z, e] at n
    cases n
  have U : Un X.fs [] H (upd (upd H dx (exd dx [(f, y)])) a (exo a C (some dx))) hp h' := {
    keep := fun b o q n _ _ => k b o (apart n) q
    slot := fun b o q n _ _ => ⟨o.slots, k b o (apart n) q⟩
    free := fun b o q n _ => by rw [upd_ne (apart n), upd_ne (low q)]; exact n
    there := fun b o q _ => by
      by_cases hb : b = a
      · exact ⟨_, by rw [hb]; exact hx⟩
      · exact ⟨o, k b o hb q⟩
    tups := fun b xs q => by rw [upd_ne (at_ne e q exo_tup), upd_ne (ne_of_none q gone)]; exact q
    frzs := fun b o v q => by rw [upd_ne (at_ne e q exo_frz), upd_ne (ne_of_none q gone)]; exact q
    tbls := fun b ps q => ⟨#[], by rw [upd_ne (at_ne e q exo_tbl), upd_ne (ne_of_none q gone), q]; simp⟩ }
  refine h dx _ gone dne (I.un (t' := tk') U fun b o q => ?_)
  by_cases hb : b = a
  · subst hb
    rw [upd_same] at q
    cases q
    exact exo_ok hx
  rw [upd_ne hb] at q
  by_cases hd : b = dx
  · subst hd
    rw [upd_same] at q
    cases q
    exact exd_ok hn (relO_put (fs := []) ry fun g => True.intro)
  rw [upd_ne hd] at q
  refine (I.hok b o q).stay (fun c v hc z => k c v ?_ z) (fun c hc => ?_) (fun c xs hc => ?_)
  · rcases hc with hc | hc
    · rw [hc]
      exact hb
    · exact at_ne e hc exo_own
  · rw [upd_ne (at_ne e hc exo_own), upd_ne (ne_of_none hc gone)]; exact hc
  · rw [upd_ne (at_ne e hc exo_tup), upd_ne (ne_of_none hc gone)]; exact hc
end
theorem ps_ox {X : Cx} {o e : Expr} {to te : TE} {f : Str} {p' pos : Pos} (ho : PE X o to) (he : PE X e te) (hs : swapsWith e (some (.Attribute o f p')) pos.line X.env = pure false := by rfl) : PS X (.Assign [.Attribute o f p'] e pos) (tOx X.K f to te) := by
  refine ⟨fun pins s σ H D I h => ?_⟩
  refine plainObj_wpAny_Assign_Attribute (thn (he.run pins s σ H _ I h) fun v s1 ⟨y, H1, I1, r1, q1⟩ => thn (ho.run pins s1 σ H1 _ I1 q1) fun u s2 ⟨x, H2, I2, r2, a, C, ex, T, hno, ea, q⟩ => ?_) hs
  subst ex
  obtain rfl : u = Value.ref a := r2
  exact putX T I2 ea hno r1 fun dx s' n ne J => ⟨σ, _, J, q dx n ne⟩
/-- what __init__(self, v) promises -/
def spOx (K : PySem.W.Frag) (C : Addr) (f : Str) : Sp := fun vs H Q E => ∃ (a : Addr) (v : V), vs = [.ref a, v] ∧ H a = some (exo a C none) ∧ ∀ dx, H dx = none → dx ≠ a → Q .non (upd (upd H dx (exd dx [(f, v)])) a (exo a C (some dx)))
section
variable {X : Cx} {CX : CXT} {k : Nat} {fI C : Addr} {fd : FuncData} {p1 p2 : Str} {f x : Str} {e : Expr} {te : TE} {p pos kpos : Pos}
/-- the class, its __init__ and what that keeps -/
structure OxI (X : Cx) (CX : CXT) (C fI : Addr) (fd : FuncData) (k : Nat) (f : Str) : Prop where
  T : OxC X.K C
  no : PySem.W.findIn X.K (.ref C) f = some none
  iC : PySem.W.findIn X.K (.ref C) "__init__" = some (some (.ref fI))
  tI : PySem.W.typeIn X.K (.ref fI) = some (.type "function")
  F : FnOk X.prog X.w X.K X.mg X.base CX k fI fd [("self" : Str), f] (spOx X.K C f)
theorem runX {pins : List (Addr × Obj)} {σ : L2.St} {H : Hp} {s : Shared} {Q : VK} {us : List Value} {kw : List (Str × Value)} {v : V} {u : Value} (O : OxI X CX C fI fd k f) (hr : Room (k + 1) X.A) (hx : Passes CX X (fun _ _ _ => False))
    (I : Inv X pins σ H s) (hl : us.length ≤ sizeLine) (hb : ∀ (s : Shared) (a : Addr), X.K.In s.heap → BindsTo s fd ⟨.ref a :: us, kw⟩ (([("self" : Str), f]).zip [.ref a, u])) (ru : RelV v u)
    (h : ∀ x H2, Same H H2 → ExAt H2 x C f v → Q x H2) : wpAny (model X.prog X.w) X.A (call (.ref C) us kw) (EP X pins σ Q) X.xe s := by
  obtain ⟨nm, q, N, bs, bm, sn, sub, ab, col, dd, k0, k1, k2, k3, k5, B, ni, ii, bmB, FB, hC, hT, _⟩ := O.T.cls
  obtain ⟨hp, g, dr, tk, os⟩ := s
  have hsz : hp.objs.size ≤ hp.objs.size + 1 := Nat.le_succ _
  have hn : H (hp.objs.size + 1) = none := I.hok.fresh hsz
  have kk : ∀ b o, hp.get? b = some o → ((hp.push (PySem.W.kdv_tup us)).push (PySem.HandSPX.excO C hp.objs.size)).get? b = some o := fun b o e => Heap.get?_push_of_some _ (Heap.get?_push_of_some _ e)
  have hget : ((hp.push (PySem.W.kdv_tup us)).push (PySem.HandSPX.excO C hp.objs.size)).get? (hp.objs.size + 1) = some (PySem.HandSPX.excO C hp.objs.size) := by heap_get
  have I2 : Inv X pins σ (upd H (hp.objs.size + 1) (exo (hp.objs.size + 1) C none)) ⟨(hp.push (PySem.W.kdv_tup us)).push (PySem.HandSPX.excO C hp.objs.size), g, dr, tk, os⟩ :=
    I.laid (t' := tk) (a := hp.objs.size + 1) (o := exo (hp.objs.size + 1) C none) (h' := (hp.push (PySem.W.kdv_tup us)).push (PySem.HandSPX.excO C hp.objs.size)) kk hsz (exo_ok hget)
  have sp : spOx X.K C f [.ref (hp.objs.size + 1), v] (upd H (hp.objs.size + 1) (exo (hp.objs.size + 1) C none)) (fun w H2 => w = .non ∧ Q (.ref (hp.objs.size + 1)) H2) (fun _ _ _ => False) := by
    refine ⟨_, v, rfl, upd_same, fun dx h1 h2 => ⟨rfl, h _ _ ?_ ⟨_, dx, rfl, upd_same, ?_⟩⟩⟩
    · have hd : H dx = none := by rw [upd_ne h2] at h1; exact h1
      intro b o eb
      have b1 : b ≠ hp.objs.size + 1 := ne_of_none eb hn
      have b2 : b ≠ dx := ne_of_none eb hd
      rw [upd_ne b1, upd_ne b2, upd_ne b1]
      exact eb
    · rw [upd_ne h2, upd_same]
  have r2 : Vals [V.ref (hp.objs.size + 1), v] [Value.ref (hp.objs.size + 1), u] := .cons rfl (.cons ru .nil)
  refine wpAny_call (callX FB hT (I.kIn _ _ hC) (PySem.W.looks_findIn I.kIn O.iC) (fun self => PySem.W.bind_fn I.kIn self O.tI) hl
    (codeAny_mono (O.F.run _ X.stack _ _ ⟨Value.ref (hp.objs.size + 1) :: us, kw⟩ [Value.ref (hp.objs.size + 1), u] _ _ (fun _ _ _ => False) (hr.make C us kw) (I2.env0.make C us kw) (hb _ _ I2.kIn) r2 sp) fun r s' hq' => ?_))
  cases r with
  | error er => exact hx pins σ _ _ er s' I2 hq'
  | ok fl =>
    cases fl with
    | ret u =>
      obtain ⟨w, H', I3, rv, ev, q3⟩ := I2.after hq'
      subst ev
      exact ⟨rv, ⟨V.ref (hp.objs.size + 1), H', I3, rfl, q3⟩⟩
    | next => exact False.elim hq'
    | brk => exact False.elim hq'
    | cont => exact False.elim hq'
/-- C(e) -/
def tOxV (C : Addr) (f : Str) (te : TE) : TE := fun σ H Q => te σ H fun v H1 => ∀ x H2, Same H1 H2 → ExAt H2 x C f v → Q x H2
theorem pe_oxP (O : OxI X CX C fI fd k f) (hr : Room (k + 1) X.A) (hx : Passes CX X (fun _ _ _ => False)) (hb : ∀ (s : Shared) (a : Addr) (u : Value), X.K.In s.heap → BindsTo s fd ⟨[.ref a, u], []⟩ (([("self" : Str), f]).zip [.ref a, u]))
    (hg : Gl X x) (hm : X.mg x = some (.ref C)) (he : PE X e te) (hdb : (x == ("__debug__" : Str)) = false := by decide) (hs : starEach [e] X.env = (false, eval e X.env) :: starEach [] X.env := by rfl) :
    PE X (.Call (.Name x p) [e] [] pos) (tOxV C f te) := by
  refine ⟨fun pins s σ H Q I h => ?_⟩
  refine wpAny_Call_Name_kw (ld_glob I hg hm ?_ hdb)
  refine PySem.W.callWith_K (h₀ := X.base) I.ok.mod.kin O.T.kC ?_ hs (by rfl)
  rw [hs]
  show wpAny _ _ (spliced ((false, eval e X.env) :: backTo pos (starEach [] X.env))) _ _ s
  refine Calls.spliced_cons (thn (he.run pins s σ H _ I h) fun u s1 ⟨v, H1, I1, r1, q1⟩ => ?_)
  refine Calls.spliced_nil ⟨I1.kIn, ?_⟩
  exact runX (us := [u]) (kw := []) O hr hx I1 (by show 1 ≤ sizeLine; rw [sizeLine_eq]; omega) (fun s a K => hb s a u K) r1 q1
/-- C(f=e) -/
theorem pe_oxK (O : OxI X CX C fI fd k f) (hr : Room (k + 1) X.A) (hx : Passes CX X (fun _ _ _ => False)) (hb : ∀ (s : Shared) (a : Addr) (u : Value), X.K.In s.heap → BindsTo s fd ⟨[.ref a], [(f, u)]⟩ (([("self" : Str), f]).zip [.ref a, u]))
    (hg : Gl X x) (hm : X.mg x = some (.ref C)) (he : PE X e te) (hdb : (x == ("__debug__" : Str)) = false := by decide) :
    PE X (.Call (.Name x p) [] [⟨some f, e, kpos⟩] pos) (tOxV C f te) := by
  refine ⟨fun pins s σ H Q I h => ?_⟩
  refine wpAny_Call_Name_kw (ld_glob I hg hm ?_ hdb)
  refine PySem.W.callWith_KW0 (h₀ := X.base) I.ok.mod.kin O.T.kC (by rfl) ?_ (by rfl)
  refine thn ((pk_cons (nm := some f) (kpos := kpos) he pk_nil).run pos pins s σ H (fun zs H2 => match zs with | [v] => ∀ x H3, Same H2 H3 → ExAt H3 x C f v → Q x H3 | _ => False) I h) fun ws s2 ⟨zs, H2, I2, rz, q2⟩ => ⟨I2.kIn, ?_⟩
  match zs, ws, rz, q2 with
  | [v], _, .cons r1 .nil, q2 => exact runX (us := []) (kw := [(f, _)]) O hr hx I2 (Nat.zero_le _) (fun s a K => hb s a _ K) r1 q2
end
end VX

namespace VX
open PySem PySem.Spec PyProof.Rows L2 VR
/-! ### fields, isinstance -/
def tOxF (K : PySem.W.Frag) (f : Str) (te : TE) : TE := fun σ H Q => te σ H fun x H1 => ∃ (C : Addr) (v : V), ExAt H1 x C f v ∧ OxC K C ∧ PySem.W.findIn K (.ref C) f = some none ∧ Q v H1
theorem pe_oxf {X : Cx} {e : Expr} {te : TE} {pos : Pos} {n : Str} (he : PE X e te) (hb : attributeBase e n X.env (eval e X.env) = eval e X.env := by rfl) : PE X (.Attribute e n pos) (tOxF X.K n te) := by
  refine ⟨fun pins s σ H Q I h => ?_⟩
  refine attr_of hb (thn (he.run pins s σ H _ I h) fun u s1 ⟨x, H1, I1, rx, C, v, hx, T, hno, q⟩ => ?_)
  obtain ⟨a, dx, rfl, ea, ed⟩ := hx
  obtain rfl : u = Value.ref a := rx
  obtain ⟨t1, ho⟩ := exo_at I1.hok ea
  obtain ⟨mA, hns, hr⟩ := exd_at I1.hok ed
  obtain ⟨od, hod, hl⟩ := lookIn_ns hns
  obtain ⟨u, hu, ru⟩ := RelO.some_of (v := v) (o := mA n) (by have := hr n; simpa [List.lookup] using this)
  have J : PySem.W.InstAt s1.heap a _ C (some od) := ⟨ho, rfl, rfl, hod⟩
  exact HandSPX.exc_get I1.kIn J T.ga T.gg T.ex (PySem.W.findObj_own T.hd hno rfl (by rw [hl, hu])) (handed_of ru) ⟨v, H1, I1.tok _, ru, q⟩
/-- isinstance(e, c), e such an exception -/
def rIsX (K : PySem.W.Frag) : List V → Hp → VK → Prop := fun xs H Q => ∃ (x c : V) (cv : Value) (C : Addr) (f : Str) (v : V) (b : Bool), xs = [x, c] ∧ ClsV c cv ∧ ExAt H x C f v ∧ OxC K C ∧ PySem.W.kitOne K (.ref C) cv = some b ∧ Q (.bl b) H
theorem call_isX {X : Cx} : CallR X (.builtin "isinstance") (rIsX X.K) := by
  intro pins s σ H xs us Q I r h
  obtain ⟨x, c, cv, C, f, v, b, rfl, hc, hx, T, e, q⟩ := h
  obtain ⟨a, dx, rfl, ea, ed⟩ := hx
  obtain ⟨u1, u2, rfl, r1, r2⟩ := vals2 r
  have e2 := hc.eq r2
  subst e2
  obtain rfl : u1 = Value.ref a := r1
  obtain ⟨t1, ho⟩ := exo_at I.hok ea
  obtain ⟨mA, hns, hr⟩ := exd_at I.hok ed
  obtain ⟨od, hod, hl⟩ := lookIn_ns hns
  have J : PySem.W.InstAt s.heap a _ C (some od) := ⟨ho, rfl, rfl, hod⟩
  exact PySem.W.kia_one (PySem.W.kitx_exc T.cin T.ga T.gg T.ex T.ac T.an T.tk T.mo) I.kIn J e (fun z => nomatch z) fun tk => ⟨.bl b, H, I.tok tk, rfl, q⟩
/-! ### repr of a list -/
/-- the items' data: no dict among them, or all the one empty dict -/
def Rpd (K : PySem.W.Frag) (H : Hp) (vs : List V) (ds : List PyData) : Prop :=
  (DpAll K H vs ds ∧ PyData.hasDictAll ds = false) ∨ ∃ (b : Addr) (n : Nat), H b = some (.dT []) ∧ vs = List.replicate n (.ref b) ∧ ds = List.replicate n (.dict [])
theorem reads_dicts {h : Heap} {b : Addr} {o : Obj} {ep : Nat} (e : h.get? b = some o) (c : o.cls = .type "dict") (d : o.data = .dict #[] ep) (nb : b ≠ sysModules) : ∀ (n : Nat) (us : List Value), Vals (List.replicate n (V.ref b)) us →
    ∃ as, ReadsAll h us (List.replicate n (.dict [])) as ∧ sysModules ∉ as
  | 0, _, r => by
    cases r
    exact ⟨[], .nil, fun z => nomatch z⟩
  | n + 1, _, r => by
    rw [List.replicate_succ] at r
    cases r with
    | cons r1 r2 =>
      obtain ⟨as, h1, h2⟩ := reads_dicts e c d nb n _ r2
      obtain rfl := (show _ = Value.ref b from r1)
      refine ⟨([b] ++ []) ++ as, ?_, ?_⟩
      · rw [List.replicate_succ]
        exact .cons (.dict (kvs := []) e c d .nil .nil) h1
      · intro z
        rcases List.mem_append.mp z with z | z
        · simp at z
          exact nb z.symm
        · exact h2 z
theorem Rpd.reads {X : Cx} {pins : List (Addr × Obj)} {σ : L2.St} {H : Hp} {s : Shared} {vs : List V} {ds : List PyData} {us : List Value} (I : L2.Inv X pins σ H s) (h : Rpd X.K H vs ds) (r : Vals vs us) :
    ∃ as, ReadsAll s.heap us ds as ∧ (PyData.hasDictAll ds = true → sysModules ∉ as) := by
  rcases h with ⟨h1, h2⟩ | ⟨b, n, hb, rfl, rfl⟩
  · obtain ⟨as, q⟩ := Dp.readsAll I ds vs us h1 r
    exact ⟨as, q, fun z => by rw [h2] at z; cases z⟩
  · obtain ⟨_, nb, xs, pr, o, es, ep, e1, e2, e3, e4, _⟩ := (show ObjOk X.prog X.w H s.heap b (.dT []) from I.hok b _ hb)
    cases pr
    have es0 : es = #[] := by
      have : es.toList = [] := by rw [e4]; rfl
      exact Array.toList_eq_nil_iff.mp this
    subst es0
    obtain ⟨as, q, z⟩ := reads_dicts e1 e2.1 e3 (beq_eq_false_iff_ne.mp nb) n us r
    exact ⟨as, q, fun _ => z⟩
def rReprL (K : PySem.W.Frag) : List V → Hp → VK → Prop := fun xs H Q => ∃ (a : Addr) (v : V) (vs : List V) (ds : List PyData), xs = [.ref a] ∧ SqL K H a (v :: vs) ∧ Rpd K H (v :: vs) ds ∧ PyData.showableAll ds = true ∧ PyData.depthAll ds ≤ 8 ∧
  (listText (PyData.shownAll ds)).length ≤ sizeLine ∧ Q (.str (listText (PyData.shownAll ds))) H
theorem call_reprL {X : Cx} {k : Nat} (hg : X.A.guards = some []) (hr : Room k X.A) : CallR X (.builtin "repr") (rReprL X.K) := by
  intro pins s σ H xs us Q I r h
  obtain ⟨a, v, vs, ds, rfl, hl, hd, hs, hdp, hz, q⟩ := h
  obtain ⟨u, rfl, r1⟩ := vals1 r
  obtain rfl : u = Value.ref a := r1
  obtain ⟨its, rv, ⟨o, n, ho, hc, _, hda⟩, _⟩ := I.list hl
  obtain ⟨as, ra, hsm⟩ := hd.reads I rv
  cases rv with
  | @cons _ u0 _ ur r1 r2 =>
    obtain ⟨bs, hb, hk⟩ := ReprAllK.of_readsAll (prog := X.prog) (w := X.w) ra hs hsm (fun t ht => Nat.le_trans (listText_mem_le ht) hz)
    have hna : a ∉ bs := not_mem_of_deeper (.list ho hc hda (by simpa using ra)) (by simp only [PyData.depth]; omega) hb
    have hu := hr.units
    refine call_repr_slot (by omega) ⟨o, ho, hc⟩ F.slot_list_repr.toG ?_
    exact call_list_reprK ho hc hda hna (by simpa using hk.length_eq) (fun i y e => hk.item i y (by simpa using e)) (g := []) (by exact hg) (fun b _ => Clear.nil b) (by show X.A.units + 1 + _ < cLine; omega) (fun _ _ e => e)
      (fun h' u tk hk' => ⟨_, _, rfl, .str _, H, I.kept hk', ⟨u, rfl⟩, q⟩) hz
end VX

/-! A law whose def shows lists: its call where nothing is being shown yet. -/
namespace VX
open PySem PySem.Spec PyProof.Rows L2 VR
/-- the call keeps sp wherever nothing is being shown -/
def RunG (P : Program) (w : World) (K : PySem.W.Frag) (mg : Str → Option Value) (base : Heap) (CX : CXT) (k : Nat) (f : Addr) (fd : FuncData) (ps : List Str) (sp : Sp) : Prop :=
  ∀ (A : Around) (outer : List Env) (s : Shared) (H : Hp) (args : Args) (us : List Value) (vs : List V) (Q : VK) (E : XK), A.guards = some [] → Room k A → Env0 P w K mg base A outer s H → BindsTo s fd args (ps.zip us) → Vals vs us → sp vs H Q E →
    codeAny (model P w) A (.call (.ref f) args) (CR CX outer P w H s Q E) s
theorem runG_of {CX : CXT} {P : Program} {w : World} {K : PySem.W.Frag} {mg : Str → Option Value} {base : Heap} {k : Nat} {f : Addr} {name qual : Str} {params : Arguments} {body : List Stmt} {scope : Scope} {dV kV doc pm cdv ct oc : Value} {an od : Option Addr}
    {osl : Array (Option Value)} {N ps : List Str} {sp : Sp} (lk : K.lookup f = some ⟨oc, od, .func (PySem.W.fnOf name qual params body scope dV kV doc pm an cdv ct), osl⟩) (cdK : PySem.W.codeIn K cdv qual = true) (S : FnScope N ps scope)
    (len : ∀ vs H Q E, sp vs H Q E → vs.length = ps.length)
    (bd : ∀ (A : Around) (outer : List Env) (s : Shared) (H : Hp) (vs : List V) (Q : VK) (E : XK), A.guards = some [] → Room k (A.deeper (envOfC qual scope s.heap.objs.size f cdv)) → sp vs H Q E →
      ∃ t, PSs (cxOf CX P w K mg base N qual scope f cdv A outer s H E) body t ∧ t { nx := fun _ H' => Q .non H', rt := Q } (start N vs) H) :
    RunG P w K mg base CX (k + 1) f (PySem.W.fnOf name qual params body scope dV kV doc pm an cdv ct) ps sp := by
  intro A outer s H args us vs Q E hg room e0 hb r hsp
  have ln := len _ _ _ _ hsp
  have up : ∀ b o, base.get? b = some o → s.heap.get? b = some o := fun b o e => (e0.bs b o e).1
  have kinds : ∀ y ∈ ps.zip us, scope.names.lookup y.1 = some .local ∨ (scope.names.lookup y.1 = some .cell ∧ ((cellsFrom (s.heap.objs.size + 1) scope.names []).lookup y.1).isSome = true) := fun ⟨n, v⟩ hy =>
    (S.par n (List.of_mem_zip hy).1).imp id fun q => ⟨q, PySem.W.cellsFrom_some _ _ _ (.inl q)⟩
  have KX : K.In s.heap := e0.mod.kin.keeps up
  refine codeAny_call_function room.depth (KX _ _ lk) rfl S.co S.gen rfl (PySem.W.codeRec_of KX cdK) (hb _ _ _ _ (wpAny_newFunctionEnv_cells S.kind kinds fun env he s1 x => ?_))
  subst he
  refine ⟨(e0.mod.nolimit.keeps up).keeps x.toInCall.keep, codeAny_func ?_⟩
  obtain ⟨t, ht, hq⟩ := bd A outer s H vs Q E hg (room.deeper _) hsp
  refine wpAny_mono (ht.run [] s1 (start N vs) H _ (inv_start S room.hd e0 ln r x) hq) (fun fl s' hs => ?_) fun e s' hs => hs
  match fl, hs with
  | .ret u, ⟨v, σ', H', J, rv, q⟩ => exact ⟨v, H', J.os, J.bare, J.base, J.hok, rv, q⟩
  | .next, ⟨σ', H', J, q⟩ => exact ⟨V.non, H', J.os, J.bare, J.base, J.hok, rfl, q⟩
  | .brk, ⟨_, _, _, q⟩ => exact q.elim
  | .cont, ⟨_, _, _, q⟩ => exact q.elim
theorem okG {P : Program} {w : World} {K : PySem.W.Frag} {mg : Str → Option Value} {base : Heap} {x qual : Str} {st : Stmt} {f : Addr} {fd : FuncData} {N ps : List Str} {k : Nat} {sp : Sp} (F : Fun K x qual st f fd) (S : FnScope N ps (defScope st)) (len : ∀ vs H Q E, sp vs H Q E → vs.length = ps.length)
    (bd : ∀ (cdv : Value) (A : Around) (outer : List Env) (s : Shared) (H : Hp) (vs : List V) (Q : VK) (E : XK), A.guards = some [] → Room k (A.deeper (envOfC qual (defScope st) s.heap.objs.size f cdv)) → sp vs H Q E →
      ∃ t, PSs (cxOf CX0 P w K mg base N qual (defScope st) f cdv A outer s H E).nox (defBody st) t ∧ t { nx := fun _ H' => Q .non H', rt := Q } (start N vs) H) : RunG P w K mg base CX0 (k + 1) f fd ps sp := by
  obtain ⟨oc, od, kV, doc, pm, an, cdv, ct, osl, rfl, lk, hcd⟩ := F.ex
  refine runG_of lk hcd S len fun A outer s H vs Q E hg hr hsp => ?_
  obtain ⟨t, h, q⟩ := bd cdv A outer s H vs Q E hg hr hsp
  exact ⟨t, h.nox, q⟩
/-- the law's call -/
theorem callG {P : Program} {w : World} {K : PySem.W.Frag} {mg mb : Str → Option Value} {CX : CXT} {k : Nat} {fa a : Addr} {fd : FuncData} {x : Str} {sp : Sp} {s₁ : Shared} {vs : List Value} {ns : List Int}
    (KX : K.In s₁.heap) (hns : s₁.heap.Ns mainGlobals mg) (hb : s₁.heap.Ns builtinsNs mb) (hbb : ∀ x : Str, x ≠ "__name__" → mb x = bootBuiltins x) (lim : s₁.heap.NoLimit) (hg : s₁.gens = #[])
    (ha : s₁.heap.get? a = some { cls := .type "list", data := .seq vs.toArray }) (hi : IntsAre vs ns) (hl : ns.length ≤ sizeLine) (room : Room k callerA)
    (F : ∀ base : Heap, K.In base → base.Ns mainGlobals mg → RunG P w K mg base CX k fa fd [x] sp) (bind : ∀ (s : Shared) (u : Value), BindsTo s fd ⟨[u], []⟩ [(x, u)])
    (hsp : ∀ H : Hp, Only H → SqL K H a (ns.map V.int) → sp [.ref a] H (fun v _ => v = .bl true) fun _ _ _ => False)
    (hCX : ∀ H e s', CX [] H s₁ (fun _ _ _ => False) e s' → False) :
    codeAny (model P w) callerA (.call (.ref fa) ⟨[.ref a], []⟩) (fun r s' => r = .ok (.ret (.bool true)) ∧ OldK s₁.heap s'.heap ∧ s'.os = s₁.os ∧ AllBare s'.gens) s₁ := by
  have rv := vals_ints hi
  have lv := hi.length
  suffices main : ∀ H : Hp, Only H → SqL K H a (ns.map V.int) → HOk P w H s₁.heap → (∀ b, H b ≠ none → b = a ∧ K.lookup a = none) →
      codeAny (model P w) callerA (.call (.ref fa) ⟨[.ref a], []⟩) (fun r s' => r = .ok (.ret (.bool true)) ∧ OldK s₁.heap s'.heap ∧ s'.os = s₁.os ∧ AllBare s'.gens) s₁ by
    cases hk : K.lookup a with
    | some o =>
      have e := KX a o hk
      rw [ha] at e
      cases e
      exact main (fun _ => none) (fun _ => .inl rfl) (.inr ⟨_, vs.toArray, _, hk, rfl, rfl, rfl, by rw [List.size_toArray, lv]; exact hl, by simpa using rv⟩) (fun b u z => nomatch (show (none : Option HO) = some u from z)) fun b z => absurd rfl z
    | none =>
      refine main (fun b => if b = a then some (.frz { cls := .type "list", data := .seq vs.toArray } (.lst (ns.map V.int))) else none) (fun b => ?_) (.inl (.inr ⟨{ cls := .type "list", data := .seq vs.toArray }, if_pos rfl⟩)) (fun b u z => ?_) (fun b z => ?_)
      · by_cases hb : b = a
        · exact .inr ⟨_, _, if_pos hb⟩
        · exact .inl (if_neg hb)
      · by_cases hb : b = a
        · cases (if_pos hb).symm.trans z
          subst hb
          exact ⟨ha, by rw [List.length_map]; exact hl, vs, _, rv, ha⟩
        · cases (if_neg hb).symm.trans z
      · by_cases hb : b = a
        · exact ⟨hb, hk⟩
        · exact absurd (if_neg hb) z
  intro H only hS hok hA
  have free : ∀ {b : Addr} {o : Obj} {es : Array DictEntry} {ep : Nat}, s₁.heap.get? b = some o → o.data = .dict es ep → H b = none := fun {b o es ep} e d => by
    cases q : H b with
    | none => rfl
    | some u =>
      obtain ⟨rfl, _⟩ := hA b (by rw [q]; simp)
      rw [ha] at e
      cases e
      exact nomatch (show Data.seq vs.toArray _ = Data.dict es ep from d)
  have nsK : ∀ {b : Addr} {m : Str → Option Value}, s₁.heap.Ns b m → (hidT s₁.heap H).Ns b m := fun {b m} ⟨o, es, ep, e, d, r⟩ => ⟨o, es, ep, hidT_get e (free e d), d, r⟩
  have KB : K.In (hidT s₁.heap H) := fun b o e => hidT_get (KX b o e) (by
    cases q : H b with
    | none => rfl
    | some u =>
      obtain ⟨rfl, z⟩ := hA b (by rw [q]; simp)
      rw [z] at e
      cases e)
  obtain ⟨mc, m1, m2⟩ := lim
  have e0 : Env0 P w K mg (hidT s₁.heap H) callerA [] s₁ H :=
    ⟨rfl, ⟨KB, nsK hns, ⟨mb, nsK hb, hbb⟩, ⟨mc, nsK m1, m2⟩⟩, fun b o e => of_hidT e, Nat.le_of_eq (hidT_size _ _), trivial, fun b hb => absurd (show b ∈ ([] : List Addr) from hb) (by simp), hok, .of_eq hg⟩
  refine codeAny_mono (F _ KB (nsK hns) callerA [] s₁ H ⟨[.ref a], []⟩ [.ref a] [.ref a] _ _ rfl room e0 (bind s₁ (.ref a)) (.cons rfl .nil) (hsp H only hS)) fun r s' h => ?_
  match r, h with
  | .error e, h => exact (hCX H e s' h).elim
  | .ok .next, h => exact h.elim
  | .ok .brk, h => exact h.elim
  | .ok .cont, h => exact h.elim
  | .ok (.ret u), ⟨v, H', os, bare, un, hok', r', q⟩ =>
    obtain rfl : v = .bl true := q
    obtain rfl : u = Value.bool true := r'
    refine ⟨rfl, OldK.of_keep fun b o e => ?_, os, bare⟩
    rcases only b with z | ⟨ob, xs, z⟩
    · exact un.keep b o e z (fun z => nomatch (show b ∈ ([] : List Addr) from z)) (by simp)
    · obtain ⟨e1, _⟩ := hok b _ z
      obtain ⟨e2, _⟩ := hok' b _ (un.frzs b ob _ z)
      rw [e] at e1
      cases e1
      exact e2
theorem walk_G {l : PySem.W.OpenLaw} {n k : Nat} {q : Program} {loose : List Str} {XP : (Str → Option Value) → Heap → Prop} {YP : World → Heap → Prop} {d : DefRec} {K : Params → PySem.W.Frag} {CX : CXT} {sp : PySem.W.Frag → Sp} {x : Str}
    (hn : l.most = some n) (hn2 : n ≤ sizeLine) (hdf : d.params.defaults = []) (hr : Room k callerA)
    (hY : ∀ (w : World) (h : Heap), YP w h → (K w.params).In h)
    (F : ∀ (w : World) (mg : Str → Option Value) (fa : Addr) (h : Heap), (K w.params).In h → h.Ns mainGlobals mg → mg d.name = some (.ref fa) →
      ∃ fd : FuncData, (∀ (s : Shared) (u : Value), BindsTo s fd ⟨[u], []⟩ [(x, u)]) ∧
        ∀ base : Heap, (K w.params).In base → base.Ns mainGlobals mg → RunG l.prog w (K w.params) mg base CX k fa fd [x] (sp (K w.params)))
    (hsp : ∀ (K : PySem.W.Frag) (H : Hp) (a : Addr) (ns : List Int), ns.length ≤ n → Only H → SqL K H a (ns.map V.int) → sp K [.ref a] H (fun v _ => v = .bl true) fun _ _ _ => False)
    (hCX : ∀ (H : Hp) (s : Shared) (e : Value) (s' : Shared), CX [] H s (fun _ _ _ => False) e s' → False) :
    PySem.W.WalkO q loose XP YP l.row.toRowW d [] (fun f vs => PySem.call f vs) := by
  refine Att.attach_call hn hdf fun w s₀ s₁ mg mb fa o pm cd doc a vs ns G Y ho hd hcd hmg hobj hints hlen hg => ?_
  have KX := hY w _ Y
  obtain ⟨fd, bind, FF⟩ := F w mg fa _ KX G.T.g hmg
  exact callG KX G.T.g G.T.b G.T.builtins G.T.nolimit hg hobj hints (Nat.le_trans hlen hn2) hr FF bind (fun H only hS => hsp _ H a ns hlen only hS) fun H e s' => hCX H s₁ e s'
end VX

/-! t * k for a tuple t and k = 0 or 1 (HandS.TupMul has k from 2 on). -/
namespace VX
open PySem PySem.Spec PyProof.Rows L2 VR
theorem mul0 (l : Addr) (items : Array Value) (n : Nat) (dd : Option Addr) (sl : Array (Option Value)) (u : Tok) (c1 : (items.isEmpty || (0 : Int) == 1) = false) :
    Meets (Builtin.«tuple.__mul__» ⟨[.ref l, .int 0 u], []⟩) (fun _ R s => s.heap.get? l = some { cls := .type "tuple", dict := dd, data := .seq items n, slots := sl } ∧
      R (.ok (.ret (Value.ref s.heap.objs.size))) { s with heap := s.heap.push { cls := Value.type "tuple", data := Data.seq #[] }, toks := s.toks }) :=
  .of_wp fun prog w A R s h => by
    obtain ⟨hp, g, d, tk, os⟩ := s
    obtain ⟨hl, h⟩ := h
    have f1 := AutoSeq1.idx_int
    wp_walk using wpAny_loadPart' hl
    repeat (first
      | (refine wpAny_ite_false (decide_eq_false (by decide)) ?_; wp_walk using wpAny_loadPart' hl)
      | (refine wpAny_ite_false (decide_eq_false (by rw [c1]; exact Bool.false_ne_true)) ?_; wp_walk using wpAny_loadPart' hl)
      | (refine wpAny_ite_true (decide_eq_true (by decide)) ?_; wp_walk using wpAny_loadPart' hl))
    exact ⟨_, rfl, h⟩
theorem mul1 (l : Addr) (items : Array Value) (n : Nat) (dd : Option Addr) (sl : Array (Option Value)) (u : Tok) :
    Meets (Builtin.«tuple.__mul__» ⟨[.ref l, .int 1 u], []⟩) (fun _ R s => s.heap.get? l = some { cls := .type "tuple", dict := dd, data := .seq items n, slots := sl } ∧ R (.ok (.ret (Value.ref l))) s) :=
  .of_wp fun prog w A R s h => by
    obtain ⟨hp, g, d, tk, os⟩ := s
    obtain ⟨hl, h⟩ := h
    have f1 := AutoSeq1.idx_int
    have c1 : (items.isEmpty || (1 : Int) == 1) = true := by simp
    wp_walk using wpAny_loadPart' hl
    repeat (first
      | (refine wpAny_ite_false (decide_eq_false (by decide)) ?_; wp_walk using wpAny_loadPart' hl)
      | (refine wpAny_ite_true (decide_eq_true (by rw [c1])) ?_; wp_walk using wpAny_loadPart' hl))
    exact ⟨_, rfl, h⟩
/-- t * k, t not empty, 0 ≤ k -/
def rRepA (K : PySem.W.Frag) : R2 := fun x y H Q => ∃ (l : Addr) (k : Nat) (xs : List V), x = .ref l ∧ y = .int (k : Int) ∧ SqT K H l xs ∧ xs ≠ [] ∧ k ≤ 1000 ∧ xs.length ≤ 1000 ∧
  ((k = 1 ∧ Q (.ref l) H) ∨ (k ≠ 1 ∧ ∀ p, H p = none → Q (.ref p) (upd H p (.tup (List.replicate k xs).flatten))))
theorem op_repA {X : Cx} : OpR X (binaryOp .Mult) (rRepA X.K) := by
  intro pins s σ H x y v u Q I rx ry h
  obtain ⟨l, k, xs, rfl, rfl, hT, hne, hk, hz, q⟩ := h
  by_cases h2 : 2 ≤ k
  · rcases q with ⟨e, _⟩ | ⟨_, q⟩
    · omega
    · exact op_repT pins s σ H _ _ v u Q I rx ry ⟨l, (k : Int), xs, rfl, rfl, hT, hne, by omega, by omega, hz, fun p hp => q p hp⟩
  cases rx
  obtain ⟨t, rfl⟩ := ry
  obtain ⟨its, r, ⟨⟨cls, dd, data, sl⟩, ho, hc, n, hd⟩, hs⟩ := I.tuple hT
  simp only at hc hd
  subst hc hd
  have hn : its ≠ [] := fun e => hne (by
    rw [e] at r
    cases r
    rfl)
  have hi : its.toArray.isEmpty = false := by
    cases its with
    | nil => exact absurd rfl hn
    | cons a b => rfl
  rcases q with ⟨rfl, q⟩ | ⟨n1, q⟩
  · exact wpAny_binaryOp_repeat_ref (T := "tuple") (U := "int") (by decide) ⟨_, ho, rfl⟩ (fun s' => typeIs_int s' _ t) noFill_tuple_mul F.fills_int_mul F.slot_int_rmul repeat_tuple F.slot_int_index.lookup
      (call_meets F.slot_int_rmul (typeIs_int s _ t) F.entry_int_rmul (F.args_int_rmul_2 _ _) (int_rmul_tuple _ t l its.toArray n dd sl)
        ⟨ho, rfl, ⟨_, ho, rfl⟩, call_meets F.slot_tuple_mul ⟨_, ho, rfl⟩ F.entry_tuple_mul (F.args_tuple_mul_2 _ _) (mul1 l its.toArray n dd sl t) ⟨ho, ⟨.ref l, H, I, rfl, q⟩⟩⟩)
  · have k0 : k = 0 := by omega
    subst k0
    have c1 : (its.toArray.isEmpty || (0 : Int) == 1) = false := by rw [hi]; rfl
    refine wpAny_binaryOp_repeat_ref (T := "tuple") (U := "int") (by decide) ⟨_, ho, rfl⟩ (fun s' => typeIs_int s' _ t) noFill_tuple_mul F.fills_int_mul F.slot_int_rmul repeat_tuple F.slot_int_index.lookup
      (call_meets F.slot_int_rmul (typeIs_int s _ t) F.entry_int_rmul (F.args_int_rmul_2 _ _) (int_rmul_tuple _ t l its.toArray n dd sl)
        ⟨ho, rfl, ⟨_, ho, rfl⟩, call_meets F.slot_tuple_mul ⟨_, ho, rfl⟩ F.entry_tuple_mul (F.args_tuple_mul_2 _ _) (mul0 l its.toArray n dd sl t c1) ⟨ho, ?_⟩⟩)
    refine ⟨.ref s.heap.objs.size, _, I.laid (t' := s.toks) (o := .tup []) (fun b ob q => Heap.get?_push_of_some _ q) (Nat.le_refl _) ?_, rfl, q _ (I.hok.fresh (Nat.le_refl _))⟩
    exact ⟨Nat.zero_le _, [], .nil, IsTup.new _ _⟩
/-- t * k, one answer for all k -/
def rRepW (K : PySem.W.Frag) : R2 := fun x y H Q => ∃ (l : Addr) (k : Nat) (xs : List V), x = .ref l ∧ y = .int (k : Int) ∧ SqT K H l xs ∧ xs ≠ [] ∧ k ≤ 1000 ∧ xs.length ≤ 1000 ∧
  ∀ (tz : Addr) (Hz : Hp), Same H Hz → SqT K Hz tz (List.replicate k xs).flatten → Q (.ref tz) Hz
theorem op_repW {X : Cx} : OpR X (binaryOp .Mult) (rRepW X.K) := by
  intro pins s σ H x y v u Q I rx ry h
  obtain ⟨l, k, xs, e1, e2, hT, hne, hk, hz, q⟩ := h
  refine op_repA pins s σ H x y v u Q I rx ry ⟨l, k, xs, e1, e2, hT, hne, hk, hz, ?_⟩
  by_cases h : k = 1
  · refine .inl ⟨h, q l H (Same.refl _) ?_⟩
    rw [h]
    simpa using hT
  · exact .inr ⟨h, fun p hp => q p _ (Same.new hp) (.of upd_same)⟩
/-- t + u of tuples, one answer for all -/
def rCatW (K : PySem.W.Frag) : R2 := fun x y H Q => ∃ (a b : Addr) (xs ys : List V), x = .ref a ∧ y = .ref b ∧ SqT K H a xs ∧ SqT K H b ys ∧ xs.length + ys.length ≤ sizeLine ∧
  ∀ (tz : Addr) (Hz : Hp), Same H Hz → SqT K Hz tz (xs ++ ys) → Q (.ref tz) Hz
theorem op_catW {X : Cx} : OpR X (binaryOp .Add) (rCatW X.K) := by
  intro pins s σ H x y v u Q I rx ry h
  obtain ⟨a, b, xs, ys, e1, e2, ha, hb, hz, q⟩ := h
  refine op_catA pins s σ H x y v u Q I rx ry ⟨a, b, xs, ys, e1, e2, ha, hb, hz, fun e => q b H (Same.refl _) (by rw [e]; exact hb), fun _ e => q a H (Same.refl _) (by rw [e, List.append_nil]; exact ha), fun _ _ p hp => q p _ (Same.new hp) (.of upd_same)⟩
end VX

/-! repr of data that hold no dict. -/
namespace VX
open PySem PySem.Spec PyProof.Rows L2 VR
def rReprB : List V → Hp → VK → Prop := fun xs H Q => ∃ b : Bool, xs = [.bl b] ∧ Q (.str (if b then "True" else "False")) H
theorem call_reprB {X : Cx} : CallR X (.builtin "repr") rReprB := by
  intro pins s σ H xs us Q I r h
  obtain ⟨b, rfl, q⟩ := h
  obtain ⟨u, rfl, r1⟩ := vals1 r
  obtain rfl : u = Value.bool b := r1
  exact PySem.P.repr_of_bool ⟨.str _, H, I.tok _, ⟨_, rfl⟩, q⟩
/-- repr of any data without dicts -/
def rReprD (K : PySem.W.Frag) : List V → Hp → VK → Prop := fun xs H Q => ∃ (v : V) (d : PyData), xs = [v] ∧ Dp K H v d ∧ d.showable = true ∧ d.hasDict = false ∧ d.depth ≤ 8 ∧ d.shown.length ≤ sizeLine ∧ Q (.str d.shown) H
theorem call_reprD {X : Cx} {k : Nat} (hg : X.A.guards = some []) (hr : Room k X.A) : CallR X (.builtin "repr") (rReprD X.K) := by
  intro pins s σ H xs us Q I r h
  obtain ⟨v, d, rfl, hd, hs, hn, hp, hz, q⟩ := h
  obtain ⟨u, rfl, r1⟩ := vals1 r
  have hu := hr.units
  cases hd with
  | non =>
    obtain rfl : u = Value.none := r1
    exact PySem.P.repr_of_none ⟨.str _, H, I.tok _, ⟨_, rfl⟩, by simpa [PyData.shown] using q⟩
  | bl b =>
    obtain rfl : u = Value.bool b := r1
    exact PySem.P.repr_of_bool ⟨.str _, H, I.tok _, ⟨_, rfl⟩, by simpa [PyData.shown] using q⟩
  | int i =>
    obtain ⟨t, rfl⟩ := r1
    exact PySem.P.repr_of_int (by simpa [PyData.showable] using hs) ⟨.str _, H, I.tok _, ⟨_, rfl⟩, by simpa [PyData.shown] using q⟩
  | str x =>
    obtain ⟨t, rfl⟩ := r1
    exact PySem.P.repr_of_str ⟨.str _, H, I.tok _, ⟨_, rfl⟩, by simpa [PyData.shown] using q⟩ (by simpa [PyData.shown] using hz)
  | @lst a xs ds h1 h2 =>
    obtain rfl : u = Value.ref a := r1
    obtain ⟨as, ra⟩ := Dp.reads I _ _ _ (Dp.lst h1 h2) rfl
    exact repr_of_reads' ra hs (fun z => by rw [hn] at z; cases z) hg (by omega) (fun _ _ e => e) (fun h' u tk hk => ⟨.str _, H, I.kept hk, ⟨_, rfl⟩, q⟩) hz
  | @tup a xs ds h1 h2 =>
    obtain rfl : u = Value.ref a := r1
    obtain ⟨as, ra⟩ := Dp.reads I _ _ _ (Dp.tup h1 h2) rfl
    exact repr_of_reads' ra hs (fun z => by rw [hn] at z; cases z) hg (by omega) (fun _ _ e => e) (fun h' u tk hk => ⟨.str _, H, I.kept hk, ⟨_, rfl⟩, q⟩) hz
end VX

namespace K02
open PySem L2 SZ VR VX StX RT
def top (i : Nat) : Stmt := PySem.Challenge.pw_farmisses_k02_names.main.body.getD i (.Pass ⟨0, 0, 0, 0⟩)
abbrev S_wall : Stmt := top 0
theorem sc_wall : FnScope ["k"] ["k"] (defScope S_wall) := ⟨rfl, rfl, rfl, by decide +kernel, rfl, by decide +kernel, by decide +kernel⟩
abbrev S_InvalidText___init__ : Stmt := inClass (top 3) 0
theorem sc_InvalidText___init__ : FnScope ["self", "value"] ["self", "value"] (defScope S_InvalidText___init__) := ⟨rfl, rfl, rfl, by decide +kernel, rfl, by decide +kernel, by decide +kernel⟩
abbrev S_InvalidSyntax___init__ : Stmt := inClass (top 4) 0
theorem sc_InvalidSyntax___init__ : FnScope ["self", "position"] ["self", "position"] (defScope S_InvalidSyntax___init__) := ⟨rfl, rfl, rfl, by decide +kernel, rfl, by decide +kernel, by decide +kernel⟩
abbrev S_TooLarge___init__ : Stmt := inClass (top 5) 0
theorem sc_TooLarge___init__ : FnScope ["self", "word"] ["self", "word"] (defScope S_TooLarge___init__) := ⟨rfl, rfl, rfl, by decide +kernel, rfl, by decide +kernel, by decide +kernel⟩
abbrev S_is_integer : Stmt := top 7
theorem sc_is_integer : FnScope ["value"] ["value"] (defScope S_is_integer) := ⟨rfl, rfl, rfl, by decide +kernel, rfl, by decide +kernel, by decide +kernel⟩
abbrev S_trimmed : Stmt := top 8
theorem sc_trimmed : FnScope ["parts", "many"] ["parts"] (defScope S_trimmed) := ⟨rfl, rfl, rfl, by decide +kernel, rfl, by decide +kernel, by decide +kernel⟩
abbrev S_sum : Stmt := top 9
theorem sc_sum : FnScope ["one", "other", "many", "parts", "power", "part"] ["one", "other"] (defScope S_sum) := ⟨rfl, rfl, rfl, by decide +kernel, rfl, by decide +kernel, by decide +kernel⟩
abbrev S_product : Stmt := top 10
theorem sc_product : FnScope ["one", "other", "many", "parts", "power", "part", "more", "factor"] ["one", "other"] (defScope S_product) := ⟨rfl, rfl, rfl, by decide +kernel, rfl, by decide +kernel, by decide +kernel⟩
abbrev S_negative : Stmt := top 11
theorem sc_negative : FnScope ["parts", "part"] ["parts"] (defScope S_negative) := ⟨rfl, rfl, rfl, by decide +kernel, rfl, by decide +kernel, by decide +kernel⟩
abbrev S_is_operand : Stmt := top 12
theorem sc_is_operand : FnScope ["value"] ["value"] (defScope S_is_operand) := ⟨rfl, rfl, rfl, by decide +kernel, rfl, by decide +kernel, by decide +kernel⟩
abbrev S_parts_of : Stmt := top 13
theorem sc_parts_of : FnScope ["operand"] ["operand"] (defScope S_parts_of) := ⟨rfl, rfl, rfl, by decide +kernel, rfl, by decide +kernel, by decide +kernel⟩
abbrev S_Size___init__ : Stmt := inClass (top 14) 0
theorem sc_Size___init__ : FnScope ["self", "parts"] ["self", "parts"] (defScope S_Size___init__) := ⟨rfl, rfl, rfl, by decide +kernel, rfl, by decide +kernel, by decide +kernel⟩
abbrev S_Size_coefficients : Stmt := inClass (top 14) 1
theorem sc_Size_coefficients : FnScope ["self"] ["self"] (defScope S_Size_coefficients) := ⟨rfl, rfl, rfl, by decide +kernel, rfl, by decide +kernel, by decide +kernel⟩
abbrev S_Size_degree : Stmt := inClass (top 14) 2
theorem sc_Size_degree : FnScope ["self"] ["self"] (defScope S_Size_degree) := ⟨rfl, rfl, rfl, by decide +kernel, rfl, by decide +kernel, by decide +kernel⟩
abbrev S_Size___add__ : Stmt := inClass (top 14) 3
theorem sc_Size___add__ : FnScope ["self", "other"] ["self", "other"] (defScope S_Size___add__) := ⟨rfl, rfl, rfl, by decide +kernel, rfl, by decide +kernel, by decide +kernel⟩
abbrev S_Size___sub__ : Stmt := inClass (top 14) 4
theorem sc_Size___sub__ : FnScope ["self", "other"] ["self", "other"] (defScope S_Size___sub__) := ⟨rfl, rfl, rfl, by decide +kernel, rfl, by decide +kernel, by decide +kernel⟩
abbrev S_Size___mul__ : Stmt := inClass (top 14) 5
theorem sc_Size___mul__ : FnScope ["self", "other"] ["self", "other"] (defScope S_Size___mul__) := ⟨rfl, rfl, rfl, by decide +kernel, rfl, by decide +kernel, by decide +kernel⟩
abbrev S_Size___neg__ : Stmt := inClass (top 14) 6
theorem sc_Size___neg__ : FnScope ["self"] ["self"] (defScope S_Size___neg__) := ⟨rfl, rfl, rfl, by decide +kernel, rfl, by decide +kernel, by decide +kernel⟩
abbrev S_Size___call__ : Stmt := inClass (top 14) 7
theorem sc_Size___call__ : FnScope ["self", "n", "value", "part"] ["self", "n"] (defScope S_Size___call__) := ⟨rfl, rfl, rfl, by decide +kernel, rfl, by decide +kernel, by decide +kernel⟩
abbrev S_Size___eq__ : Stmt := inClass (top 14) 8
theorem sc_Size___eq__ : FnScope ["self", "other"] ["self", "other"] (defScope S_Size___eq__) := ⟨rfl, rfl, rfl, by decide +kernel, rfl, by decide +kernel, by decide +kernel⟩
abbrev S_is_word : Stmt := top 20
theorem sc_is_word : FnScope ["text"] ["text"] (defScope S_is_word) := ⟨rfl, rfl, rfl, by decide +kernel, rfl, by decide +kernel, by decide +kernel⟩
abbrev S_is_number : Stmt := top 21
theorem sc_is_number : FnScope ["text", "character"] ["text"] (defScope S_is_number) := ⟨rfl, rfl, rfl, by decide +kernel, rfl, by decide +kernel, by decide +kernel⟩
abbrev S_end_of_run : Stmt := top 22
theorem sc_end_of_run : FnScope ["text", "begin", "end"] ["text", "begin"] (defScope S_end_of_run) := ⟨rfl, rfl, rfl, by decide +kernel, rfl, by decide +kernel, by decide +kernel⟩
abbrev S_tokens_of : Stmt := top 23
theorem sc_tokens_of : FnScope ["text", "found", "at", "end"] ["text"] (defScope S_tokens_of) := ⟨rfl, rfl, rfl, by decide +kernel, rfl, by decide +kernel, by decide +kernel⟩
abbrev S_Reader___init__ : Stmt := inClass (top 24) 0
theorem sc_Reader___init__ : FnScope ["self", "text"] ["self", "text"] (defScope S_Reader___init__) := ⟨rfl, rfl, rfl, by decide +kernel, rfl, by decide +kernel, by decide +kernel⟩
abbrev S_Reader_token : Stmt := inClass (top 24) 1
theorem sc_Reader_token : FnScope ["self", "token", "_"] ["self"] (defScope S_Reader_token) := ⟨rfl, rfl, rfl, by decide +kernel, rfl, by decide +kernel, by decide +kernel⟩
abbrev S_Reader_place : Stmt := inClass (top 24) 2
theorem sc_Reader_place : FnScope ["self", "_", "place"] ["self"] (defScope S_Reader_place) := ⟨rfl, rfl, rfl, by decide +kernel, rfl, by decide +kernel, by decide +kernel⟩
abbrev S_Reader_pass_any : Stmt := inClass (top 24) 3
theorem sc_Reader_pass_any : FnScope ["self", "token"] ["self"] (defScope S_Reader_pass_any) := ⟨rfl, rfl, rfl, by decide +kernel, rfl, by decide +kernel, by decide +kernel⟩
abbrev S_Reader_passes : Stmt := inClass (top 24) 4
theorem sc_Reader_passes : FnScope ["self", "token"] ["self", "token"] (defScope S_Reader_passes) := ⟨rfl, rfl, rfl, by decide +kernel, rfl, by decide +kernel, by decide +kernel⟩
abbrev S_Reader_pass_only : Stmt := inClass (top 24) 5
theorem sc_Reader_pass_only : FnScope ["self", "token"] ["self", "token"] (defScope S_Reader_pass_only) := ⟨rfl, rfl, rfl, by decide +kernel, rfl, by decide +kernel, by decide +kernel⟩
abbrev S_Reader_pass_one : Stmt := inClass (top 24) 6
theorem sc_Reader_pass_one : FnScope ["self", "tokens"] ["self", "tokens"] (defScope S_Reader_pass_one) := ⟨rfl, rfl, rfl, by decide +kernel, rfl, by decide +kernel, by decide +kernel⟩
abbrev S_Reader_pass_number : Stmt := inClass (top 24) 7
theorem sc_Reader_pass_number : FnScope ["self"] ["self"] (defScope S_Reader_pass_number) := ⟨rfl, rfl, rfl, by decide +kernel, rfl, by decide +kernel, by decide +kernel⟩
abbrev S_Reader_pass_end : Stmt := inClass (top 24) 8
theorem sc_Reader_pass_end : FnScope ["self"] ["self"] (defScope S_Reader_pass_end) := ⟨rfl, rfl, rfl, by decide +kernel, rfl, by decide +kernel, by decide +kernel⟩
abbrev S_is_name : Stmt := top 30
theorem sc_is_name : FnScope ["value"] ["value"] (defScope S_is_name) := ⟨rfl, rfl, rfl, by decide +kernel, rfl, by decide +kernel, by decide +kernel⟩
abbrev S_parse : Stmt := top 31
theorem sc_parse : FnScope ["text", "reader", "arrays", "name", "block"] ["text"] (defScope S_parse) := ⟨rfl, rfl, rfl, by decide +kernel, rfl, by decide +kernel, by decide +kernel⟩
abbrev S_reader : Stmt := top 32
theorem sc_reader : FnScope ["text"] ["text"] (defScope S_reader) := ⟨rfl, rfl, rfl, by decide +kernel, rfl, by decide +kernel, by decide +kernel⟩
abbrev S_name : Stmt := top 33
theorem sc_name : FnScope ["reader"] ["reader"] (defScope S_name) := ⟨rfl, rfl, rfl, by decide +kernel, rfl, by decide +kernel, by decide +kernel⟩
abbrev S_block : Stmt := top 34
theorem sc_block : FnScope ["reader", "loops", "block"] ["reader", "loops"] (defScope S_block) := ⟨rfl, rfl, rfl, by decide +kernel, rfl, by decide +kernel, by decide +kernel⟩
abbrev S_statement : Stmt := top 35
theorem sc_statement : FnScope ["reader", "loops", "word", "array", "index"] ["reader", "loops"] (defScope S_statement) := ⟨rfl, rfl, rfl, by decide +kernel, rfl, by decide +kernel, by decide +kernel⟩
abbrev S_loop : Stmt := top 36
theorem sc_loop : FnScope ["reader", "loops", "counter", "parts", "block"] ["reader", "loops"] (defScope S_loop) := ⟨rfl, rfl, rfl, by decide +kernel, rfl, by decide +kernel, by decide +kernel⟩
abbrev S_size : Stmt := top 37
theorem sc_size : FnScope ["reader"] ["reader"] (defScope S_size) := ⟨rfl, rfl, rfl, by decide +kernel, rfl, by decide +kernel, by decide +kernel⟩
abbrev S_index : Stmt := top 38
theorem sc_index : FnScope ["reader", "sums", "factors", "counter", "parts"] ["reader"] (defScope S_index) := ⟨rfl, rfl, rfl, by decide +kernel, rfl, by decide +kernel, by decide +kernel⟩
abbrev S_sums : Stmt := top 39
theorem sc_sums : FnScope ["reader", "in_index", "sums", "sign", "goes_on", "number", "power", "counter", "size"] ["reader", "in_index"] (defScope S_sums) := ⟨rfl, rfl, rfl, by decide +kernel, rfl, by decide +kernel, by decide +kernel⟩
abbrev S_part : Stmt := top 40
theorem sc_part : FnScope ["reader", "in_index", "number", "power", "counter", "goes_on"] ["reader", "in_index"] (defScope S_part) := ⟨rfl, rfl, rfl, by decide +kernel, rfl, by decide +kernel, by decide +kernel⟩
abbrev S_law_pool : Stmt := top 42
theorem sc_law_pool : FnScope ["_law_script", "_law_k", "_law_cell", "_law_heavy", "_law_blend", "_law_seed"] ["_law_script", "_law_k"] (defScope S_law_pool) := ⟨rfl, rfl, rfl, by decide +kernel, rfl, by decide +kernel, by decide +kernel⟩
abbrev S_law_take : Stmt := top 43
theorem sc_law_take : FnScope ["_law_pool_here", "_law_wide", "_law_result"] ["_law_pool_here", "_law_wide"] (defScope S_law_take) := ⟨rfl, rfl, rfl, by decide +kernel, rfl, by decide +kernel, by decide +kernel⟩
abbrev S_law_due : Stmt := top 44
theorem sc_law_due : FnScope ["_law_word_here", "_law_letters", "_law_sign"] ["_law_word_here"] (defScope S_law_due) := ⟨rfl, rfl, rfl, by decide +kernel, rfl, by decide +kernel, by decide +kernel⟩
abbrev S_law_word : Stmt := top 45
theorem sc_law_word : FnScope ["_law_pool_here", "_law_letters", "_law_turn"] ["_law_pool_here"] (defScope S_law_word) := ⟨rfl, rfl, rfl, by decide +kernel, rfl, by decide +kernel, by decide +kernel⟩
abbrev S_law_bent : Stmt := top 46
theorem sc_law_bent : FnScope ["_law_pool_here", "_law_word_here", "_law_at", "_law_way", "_law_sign"] ["_law_pool_here", "_law_word_here"] (defScope S_law_bent) := ⟨rfl, rfl, rfl, by decide +kernel, rfl, by decide +kernel, by decide +kernel⟩
abbrev S_law_is_read : Stmt := top 47
theorem sc_law_is_read : FnScope ["_law_word_here", "_law_text"] ["_law_word_here"] (defScope S_law_is_read) := ⟨rfl, rfl, rfl, by decide +kernel, rfl, by decide +kernel, by decide +kernel⟩
abbrev S_law : Stmt := top 48
theorem sc_law : FnScope ["_law_script", "_law_thing", "_law_k", "_law_pool_here", "_law_words", "_law_word_here"] ["_law_script"] (defScope S_law) := ⟨rfl, rfl, rfl, by decide +kernel, rfl, by decide +kernel, by decide +kernel⟩

/-! ### tokens: the signs -/
abbrev LET : Str := "abcdefghijklmnopqrstuvwxyz"
abbrev DIG : Str := "0123456789"
abbrev GAP : Str := " \n"
/-- a lowercase letter, a digit, either -/
def lc (c : Nat) : Bool := decide (c ∈ LET.cps.toList)
def dg (c : Nat) : Bool := decide (c ∈ DIG.cps.toList)
def gp (c : Nat) : Bool := decide (c ∈ GAP.cps.toList)
def an (c : Nat) : Bool := lc c || dg c
/-- the end of the run of letters and digits from b on -/
def runE (s : List Nat) (b : Nat) : Nat := b + ((s.drop b).takeWhile an).length
theorem runE_le {s : List Nat} {b : Nat} (h : b ≤ s.length) : runE s b ≤ s.length := by
  have h1 := (List.takeWhile_sublist an (l := s.drop b)).length_le
  rw [List.length_drop] at h1
  unfold runE
  omega
theorem runE_step {s : List Nat} {b : Nat} {c : Nat} (h : s[b]? = some c) (a : an c = true) : runE s b = runE s (b + 1) := by
  have hl : b < s.length := (List.getElem?_eq_some_iff.mp h).1
  have e : s.drop b = c :: s.drop (b + 1) := by
    rw [List.drop_eq_getElem_cons hl]
    congr 1
    have := List.getElem?_eq_getElem hl
    rw [h] at this
    exact (Option.some.inj this).symm
  unfold runE
  rw [e, List.takeWhile_cons, if_pos a, List.length_cons]
  omega
theorem runE_stop {s : List Nat} {b : Nat} {c : Nat} (h : s[b]? = some c) (a : an c = false) : runE s b = b := by
  have hl : b < s.length := (List.getElem?_eq_some_iff.mp h).1
  have e : s.drop b = c :: s.drop (b + 1) := by
    rw [List.drop_eq_getElem_cons hl]
    congr 1
    have := List.getElem?_eq_getElem hl
    rw [h] at this
    exact (Option.some.inj this).symm
  unfold runE
  rw [e, List.takeWhile_cons, if_neg (by rw [a]; exact Bool.false_ne_true)]
  rfl
theorem runE_end {s : List Nat} : runE s s.length = s.length := by
  unfold runE
  rw [List.drop_length]
  rfl
/-- the module's constants and Python's own names in it -/
structure TkB (mg : Str → Option Value) : Prop where
  let_ : ∃ t, mg "_LETTERS" = some (.str LET t)
  dig : ∃ t, mg "_DIGITS" = some (.str DIG t)
  gap : ∃ t, mg "_GAPS" = some (.str GAP t)
  len : mg "len" = none
  max : mg "max" = none
  all : mg "all" = none
def spEnd : Sp := fun vs H Q _ => ∃ (z : Str) (b : Nat), vs = [.str z, .int b] ∧ z.length ≤ 100000 ∧ b ≤ z.length ∧ Q (.int (runE z.cps.toList b : Nat)) H
theorem atN {α : Type} {xs : List α} {j : Nat} {x : α} (h : xs[j]? = some x) : atI xs (j : Int) = some x := by
  have hl : j < xs.length := (List.getElem?_eq_some_iff.mp h).1
  unfold atI
  rw [ixN_nat hl]
  exact h
theorem lenS {n : Nat} (h : n ≤ 100) : n ≤ sizeLine := smallL (by omega)
theorem zL {n : Nat} (h : n ≤ 100000) : n ≤ sizeLine := by rw [sizeLine_eq]; omega
section
variable {P : Program} {w : World} {K : PySem.W.Frag} {mg : Str → Option Value} {base : Heap}
theorem ok_end {f : Addr} {fd : FuncData} (F : Fun K "_end_of_run" "_end_of_run" S_end_of_run f fd) (B : TkB mg) : FnOk P w K mg base CX0 1 f fd ["text", "begin"] spEnd := by
  refine F.ok sc_end_of_run (fun vs H Q E h => ?_) (fun cdv A outer s H vs Q E hr h => ?_)
  · obtain ⟨z, b, rfl, _⟩ := h; rfl
  · obtain ⟨z, b, rfl, hz, hb, q⟩ := h
    obtain ⟨t1, m1⟩ := B.let_
    obtain ⟨t2, m2⟩ := B.dig
    refine ⟨_, pss_cons (ps_set (i := 2) sc_end_of_run.nd rfl (Or.inl rfl) (pv 1))
      (pss_cons (ps_while PassesOwn.never (PW.pt (pw_and (pt_cmpR op_lt (pv 2) (pe_callB call_len_str (by rfl) B.len PySem.boot_len (pa_cons (pv 0) pa_nil)) (nomark _))
          (pw_and1 (PW.pt (pw_or (pt_cmpR op_inS (pe_ix ix_str (pv 0) (pv 2) (fun _ _ => rfl)) (pe_glob (by rfl) m1 (v := .str LET) ⟨t1, rfl⟩) (by rfl))
            (pw_or1 (pt_cmpR op_inS (pe_ix ix_str (pv 0) (pv 2) (fun _ _ => rfl)) (pe_glob (by rfl) m2 (v := .str DIG) ⟨t2, rfl⟩) (by rfl))))))))
        (pss_one (ps_aug (i := 2) sc_end_of_run.nd rfl (.inl rfl) pe_int ip_add)))
      (pss_one (ps_ret (pv 2)))), ?_⟩
    refine ⟨_, rfl, ?_⟩
    have hsz : z.cps.toList.length = z.length := rfl
    refine ⟨fun m σ H' => ∃ e : Nat, m = z.length - e ∧ b ≤ e ∧ e ≤ z.length ∧ σ = [some (.str z), some (.int b), some (.int e)] ∧ H' = H ∧ runE z.cps.toList b = runE z.cps.toList e, ⟨_, b, rfl, Nat.le_refl _, hb, rfl, rfl, rfl⟩, ?_⟩
    rintro m σ H' ⟨e, rfl, hbe, hez, rfl, rfl, hrun⟩
    refine ⟨_, rfl, _, rfl, z, rfl, zL hz, _, _, rfl, rfl, _, rfl, ?_⟩
    have step : ∀ {c : Nat}, z.cps.toList[e]? = some c → an c = true → ∃ N : L2.St → Hp → Prop, (∀ σ' H'', N σ' H'' → ∃ m', m' < z.length - e ∧ ∃ e' : Nat, m' = z.length - e' ∧ b ≤ e' ∧ e' ≤ z.length ∧ σ' = [some (.str z), some (.int b), some (.int e')] ∧ H'' = H' ∧ runE z.cps.toList b = runE z.cps.toList e') ∧
        N [some (.str z), some (.int b), some (.int ((e : Int) + 1))] H' := fun {c} hc ha => by
      have hl : e < z.length := (List.getElem?_eq_some_iff.mp hc).1
      refine ⟨fun σ' H'' => σ' = [some (.str z), some (.int b), some (.int ((e + 1 : Nat) : Int))] ∧ H'' = H', ?_, ?_, rfl⟩
      · rintro σ' H'' ⟨rfl, rfl⟩
        exact ⟨_, by omega, e + 1, rfl, by omega, by omega, rfl, rfl, hrun.trans (runE_step hc ha)⟩
      · have e1 : ((e + 1 : Nat) : Int) = (e : Int) + 1 := by omega
        rw [e1]
    refine ite2 (fun h0 => ?_) (fun h0 => ?_)
    · have hl : e < z.length := by have := of_decide_eq_true h0; omega
      have hc : z.cps.toList[e]? = some (z.cps.toList[e]) := List.getElem?_eq_getElem hl
      generalize z.cps.toList[e] = c at hc
      refine ⟨_, rfl, _, rfl, z, _, c, rfl, rfl, zL hz, atN hc, c, LET, rfl, rfl, _, rfl, ?_⟩
      refine ite2 (fun h1 => ?_) (fun h1 => ?_)
      · obtain ⟨N, n1, n2⟩ := step hc (by unfold an lc; rw [h1]; rfl)
        exact ⟨N, n1, _, rfl, _, _, rfl, rfl, n2⟩
      · refine ⟨_, rfl, _, rfl, z, _, c, rfl, rfl, zL hz, atN hc, c, DIG, rfl, rfl, _, rfl, ?_⟩
        refine ite2 (fun h2 => ?_) (fun h2 => ?_)
        · obtain ⟨N, n1, n2⟩ := step hc (by unfold an dg; rw [h2, Bool.or_true])
          exact ⟨N, n1, _, rfl, _, _, rfl, rfl, n2⟩
        · have hs := runE_stop hc (by unfold an lc dg; rw [Bool.eq_false_iff.mpr h1, Bool.eq_false_iff.mpr h2]; rfl)
          rw [hs] at hrun
          rw [hrun] at q
          exact ⟨_, rfl, q⟩
    · have he : e = z.length := by
        have h1 : ¬ (e : Int) < (z.length : Int) := by simpa using h0
        omega
      subst he
      rw [hrun, ← hsz, runE_end] at q
      exact ⟨_, rfl, q⟩
/-- a lowercase letter, then letters and digits -/
def isW (s : List Nat) : Bool := match s with
  | [] => false
  | c :: r => lc c && r.all an
theorem takeWhile_all {α : Type} (p : α → Bool) : ∀ l : List α, ((l.takeWhile p).length = l.length) ↔ l.all p = true
  | [] => by simp
  | x :: l => by
    rw [List.takeWhile_cons, List.all_cons]
    cases h : p x with
    | false => simp
    | true => simp [takeWhile_all p l]
theorem isW_run {c : Nat} {r : List Nat} (h : lc c = true) : decide (runE (c :: r) 0 = (c :: r).length) = r.all an := by
  have ha : an c = true := by unfold an; rw [h]; rfl
  have e : runE (c :: r) 0 = 1 + (r.takeWhile an).length := by
    unfold runE
    rw [List.drop_zero, List.takeWhile_cons, if_pos ha, List.length_cons]
    omega
  rw [e, List.length_cons]
  have k := takeWhile_all an r
  cases h2 : r.all an with
  | true => rw [decide_eq_true_eq]; have := k.mpr h2; omega
  | false =>
    rw [decide_eq_false_iff_not]
    intro z
    have := k.mp (by omega)
    rw [h2] at this
    cases this
def spWord : Sp := fun vs H Q _ => ∃ z : Str, vs = [.str z] ∧ z.length ≤ 100000 ∧ Q (.bl (isW z.cps.toList)) H
theorem str_nil {z : Str} (h : z.cps.toList = []) : z = Str.empty := by
  obtain ⟨⟨l⟩⟩ := z
  simp only at h
  rw [h]
  rfl
theorem ok_is_word {f fE : Addr} {fd dE : FuncData} (F : Fun K "is_word" "is_word" S_is_word f fd) (FE : Fun K "_end_of_run" "_end_of_run" S_end_of_run fE dE) (bE : Binds K dE ["text", "begin"] []) (gE : mg "_end_of_run" = some (.ref fE)) (B : TkB mg) : FnOk P w K mg base CX0 2 f fd ["text"] spWord := by
  have GE : FnOk P w K mg base CX0 1 fE dE ["text", "begin"] spEnd := ok_end FE B
  refine F.ok sc_is_word (fun vs H Q E h => ?_) (fun cdv A outer s H vs Q E hr h => ?_)
  · obtain ⟨z, rfl, _⟩ := h; rfl
  · obtain ⟨z, rfl, hz, q⟩ := h
    obtain ⟨t1, m1⟩ := B.let_
    refine ⟨_, pss_one (ps_ret (pe_and (pe_cmpR op_ne (pv 0) pe_str (nomark _)) (pe_and (pe_cmpR op_inS (pe_ix ix_str (pv 0) pe_int (fun _ _ => rfl)) (pe_glob (by rfl) m1 (v := .str LET) ⟨t1, rfl⟩) (by rfl))
      (pe_one (pe_cmpR op_eq (pe_call GE hr (by rfl) gE FE.kp bE .nil pass0 (pa_cons (pv 0) (pa_cons pe_int pa_nil))) (pe_callB call_len_str (by rfl) B.len PySem.boot_len (pa_cons (pv 0) pa_nil)) (nomark _)))))), ?_⟩
    refine ⟨_, rfl, rfl, _, rfl, ?_⟩
    cases hs : z.cps.toList with
    | nil =>
      have e := str_nil hs
      subst e
      rw [hs] at q
      refine iteF q
    | cons c r =>
      have ne : z ≠ Str.ofString "" := fun e => by
        have e0 : (Str.ofString "").cps.toList = [] := by decide +kernel
        rw [e, e0] at hs
        cases hs
      rw [hs] at q
      rw [decide_eq_false (p := V.str z = V.str (Str.ofString "")) (fun e => ne (V.str.inj e))]
      refine iteT ?_
      refine ⟨_, rfl, z, 0, c, rfl, rfl, zL hz, by rw [hs]; exact atN (j := 0) rfl, c, LET, rfl, rfl, _, rfl, ?_⟩
      refine ite2 (fun h1 => ?_) (fun h1 => ?_)
      · refine ⟨_, rfl, z, 0, rfl, hz, Nat.zero_le _, ?_⟩
        refine ⟨_, rfl, z, rfl, zL hz, rfl, ?_⟩
        have e2 : decide (V.int ((runE z.cps.toList 0 : Nat) : Int) = V.int (z.length : Int)) = r.all an := by
          rw [← isW_run (c := c) (r := r) h1, hs]
          have hl : z.length = (c :: r).length := by rw [← hs]; rfl
          rw [hl]
          exact decide_eq_decide.mpr ⟨fun k => by have := V.int.inj k; omega, fun k => by rw [k]⟩
        rw [e2]
        have e3 : isW (c :: r) = r.all an := by
          show (decide (c ∈ LET.cps.toList) && r.all an) = _
          rw [h1, Bool.true_and]
        rw [← e3]
        exact q
      · have e3 : isW (c :: r) = false := by
          show (decide (c ∈ LET.cps.toList) && r.all an) = _
          rw [Bool.eq_false_iff.mpr h1, Bool.false_and]
        rw [e3] at q
        exact q
end

end K02

namespace K02
open PySem L2 SZ VR VX StX RT
/-! ### numbers, the list of tokens -/
/-- decimal digits without leading zeros -/
def isN (s : List Nat) : Bool := match s with
  | [] => false
  | c :: r => !(decide (c = 48) && !r.isEmpty) && (c :: r).all dg
def spNum : Sp := fun vs H Q _ => ∃ z : Str, vs = [.str z] ∧ z.length ≤ 50000 ∧ ∀ H', Same H H' → Q (.bl (isN z.cps.toList)) H'
theorem one_str (c : Nat) : (⟨#[c]⟩ : Str).cps.toList = [c] := rfl
section
variable {P : Program} {w : World} {K : PySem.W.Frag} {mg : Str → Option Value} {base : Heap}
theorem ok_is_number {f : Addr} {fd : FuncData} (F : Fun K "is_number" "is_number" S_is_number f fd) (B : TkB mg) : FnOk P w K mg base CX0 1 f fd ["text"] spNum := by
  refine F.ok sc_is_number (fun vs H Q E h => ?_) (fun cdv A outer s H vs Q E hr h => ?_)
  · obtain ⟨z, rfl, _⟩ := h; rfl
  · obtain ⟨z, rfl, hz, q⟩ := h
    obtain ⟨t2, m2⟩ := B.dig
    have hzL : z.length ≤ sizeLine := zL (by omega)
    refine ⟨_, pss_cons (ps_if (PW.pt (pw_or (pt_cmpR op_eq (pv 0) pe_str (nomark _)) (pw_or1 (PW.pt (pw_and (pt_cmpR op_eq (pe_ix ix_str (pv 0) pe_int (fun _ _ => rfl)) pe_str (nomark _)) (pw_and1 (pt_cmpR op_ne (pv 0) pe_str (nomark _))))))))
        (pss_one (ps_ret pe_bl)) pss_nil)
      (pss_one (ps_ret (pe_callB (cr_all (by rfl)) (by rfl) B.all (by decide +kernel) (pa_cons
        (pe_lc (own := [("character", 1)]) (g := gName 1) (by rfl) sc_is_number.nd (pi_str (pv 0)) (blkOk_by (own := [("character", 1)]) (N := ["text", "character"]) (sc := defScope S_is_number) (by decide +kernel)) (fun _ _ _ _ _ => pg_name (i := 1) sc_is_number.nd rfl (Or.inl rfl)) (fun _ _ _ _ _ => pts_nil)
          (fun _ _ _ _ _ => pe_cmpR op_inS (pv 1) (pe_glob (by rfl) m2 (v := .str DIG) ⟨t2, rfl⟩) (by rfl))) pa_nil)))), ?_⟩
    refine ⟨_, rfl, rfl, _, rfl, ?_⟩
    cases hs : z.cps.toList with
    | nil =>
      have e := str_nil hs
      subst e
      have q := q H (Same.refl _)
      rw [hs] at q
      refine iteT ?_
      exact q
    | cons c r =>
      have ne : z ≠ Str.ofString "" := fun e => by
        have e0 : (Str.ofString "").cps.toList = [] := by decide +kernel
        rw [e, e0] at hs
        cases hs
      rw [decide_eq_false (p := V.str z = V.str (Str.ofString "")) (fun e => ne (V.str.inj e))]
      refine iteF ?_
      refine ⟨_, rfl, z, 0, c, rfl, rfl, hzL, by rw [hs]; exact atN (j := 0) rfl, rfl, _, rfl, ?_⟩
      have h0 : (Str.ofString "0") = ⟨#[48]⟩ := by decide +kernel
      have d1 : decide (V.str ⟨#[c]⟩ = V.str (Str.ofString "0")) = decide (c = 48) := by
        rw [h0]
        exact decide_eq_decide.mpr ⟨fun k => by have k := V.str.inj k; injection k with k; simpa using k, fun k => by rw [k]⟩
      have d2 : (!decide (V.str z = V.str (Str.ofString "0"))) = !decide (c = 48 ∧ r = []) := by
        rw [h0]
        congr 1
        refine decide_eq_decide.mpr ⟨fun k => ?_, fun k => ?_⟩
        · have k := V.str.inj k
          rw [k] at hs
          have k2 : [48] = c :: r := hs
          injection k2 with k3 k4
          exact ⟨k3.symm, k4.symm⟩
        · obtain ⟨rfl, rfl⟩ := k
          congr 1
          obtain ⟨⟨l⟩⟩ := z
          simp only at hs
          rw [hs]
      have q' : ∀ H', Same H H' → (decide (c = 48) && !r.isEmpty) = false → Q (.bl ((c :: r).all dg)) H' := fun H' s e => by
        have q := q H' s
        rw [hs] at q
        have e1 : isN (c :: r) = (c :: r).all dg := by
          show (!(decide (c = 48) && !r.isEmpty) && (c :: r).all dg) = _
          rw [e]
          rfl
        rw [← e1]
        exact q
      have walk : (decide (c = 48) && !r.isEmpty) = false → tRet (tCB (rAll K) (tCons (tLc (iStr (tVar 0)) (gName 1) tYes (tOp rInS (tVar 1) (tC (.str DIG))) [1]) tNil)) { nx := fun _ H' => Q .non H', rt := Q } [some (.str z), none] H := fun e => by
        refine ⟨_, rfl, z, rfl, fun D hD => lc_it (walk_str (z := z)) (fun i H' => H' D = some (.lst ((z.cps.toList.take i).map fun c => V.bl (dg c))) ∧ Same H H') ⟨upd_same, Same.new hD⟩ (fun _ _ _ _ => trivial) ?_ ?_⟩
        · rintro i x H1 H2 hi ⟨hd, s1⟩ ⟨rfl, d, hd2, rfl⟩
          have hl : z.cps.toList[i]? = some d := by rw [Array.getElem?_toList]; exact hd2
          refine ⟨rfl, ?_⟩
          refine ⟨_, rfl, d, DIG, rfl, rfl, _, hd, ?_, ?_, s1.upd0 hD⟩
          · rw [List.length_map, List.length_take]
            exact Nat.lt_of_le_of_lt (show _ ≤ 50000 by have : z.cps.size = z.length := rfl; omega) (by decide)
          · rw [upd_same, List.take_add_one, hl]
            simp [dg]
        · rintro H1 ⟨hd, s1⟩
          have hfull : z.cps.toList.take z.cps.size = c :: r := by
            rw [hs]
            have : z.cps.size = (c :: r).length := by rw [← hs]; rfl
            rw [this, List.take_length]
          rw [hfull] at hd
          refine ⟨D, (c :: r).map dg, rfl, .of (by rw [hd, List.map_map]; rfl), ?_⟩
          have := q' H1 s1 e
          rw [List.all_map]
          exact this
      rw [d1]
      refine ite2 (fun h1 => ?_) (fun h1 => ?_)
      · refine ⟨_, rfl, rfl, _, rfl, ?_⟩
        rw [d2]
        have hc : c = 48 := of_decide_eq_true h1
        cases r with
        | nil =>
          rw [decide_eq_true (p := c = 48 ∧ ([] : List Nat) = []) ⟨hc, rfl⟩]
          refine iteF ?_
          exact walk (by simp)
        | cons c2 r2 =>
          rw [decide_eq_false (p := c = 48 ∧ c2 :: r2 = []) (fun k => nomatch k.2)]
          refine iteT ?_
          have q := q H (Same.refl _)
          rw [hs] at q
          have e1 : isN (c :: c2 :: r2) = false := by
            show (!(decide (c = 48) && !(c2 :: r2).isEmpty) && (c :: c2 :: r2).all dg) = _
            rw [h1]
            rfl
          rw [e1] at q
          exact q
      · refine iteF ?_
        exact walk (by rw [Bool.eq_false_iff.mpr h1, Bool.false_and])
end

end K02

namespace K02
open PySem L2 SZ VR VX StX RT
/-- where the next token may begin -/
def nxt (s : List Nat) (a : Nat) : Nat := max (a + 1) (runE s a)
theorem nxt_gt (s : List Nat) (a : Nat) : a < nxt s a := Nat.lt_of_lt_of_le (Nat.lt_succ_self a) (Nat.le_max_left _ _)
theorem nxt_le {s : List Nat} {a : Nat} (h : a < s.length) : nxt s a ≤ s.length := Nat.max_le.mpr ⟨h, runE_le (Nat.le_of_lt h)⟩
/-- the tokens from a on, each with its position; the end is not among them -/
def toks (s : List Nat) (a : Nat) : List (List Nat × Nat) :=
  if h : a < s.length then (if gp s[a] = true then [] else [((s.drop a).take (nxt s a - a), a)]) ++ toks s (nxt s a) else []
termination_by s.length - a
decreasing_by have := nxt_gt s a; omega
theorem toks_gap {s : List Nat} {a c : Nat} (hc : s[a]? = some c) (g : gp c = true) : toks s a = toks s (nxt s a) := by
  have hl : a < s.length := (List.getElem?_eq_some_iff.mp hc).1
  have e : s[a] = c := by
    rw [List.getElem?_eq_getElem hl] at hc
    exact Option.some.inj hc
  rw [toks, dif_pos hl, e, if_pos g, List.nil_append]
theorem toks_tok {s : List Nat} {a c : Nat} (hc : s[a]? = some c) (g : gp c = false) : toks s a = ((s.drop a).take (nxt s a - a), a) :: toks s (nxt s a) := by
  have hl : a < s.length := (List.getElem?_eq_some_iff.mp hc).1
  have e : s[a] = c := by
    rw [List.getElem?_eq_getElem hl] at hc
    exact Option.some.inj hc
  rw [toks, dif_pos hl, e, if_neg (by rw [g]; exact Bool.false_ne_true), List.singleton_append]
theorem toks_end {s : List Nat} {a : Nat} (h : ¬ a < s.length) : toks s a = [] := by rw [toks, dif_neg h]
/-- v is a pair (token, position) -/
def TokAt (H : Hp) (v : V) (t : List Nat × Nat) : Prop := ∃ p : Addr, v = .ref p ∧ H p = some (.tup [.str ⟨t.1.toArray⟩, .int (t.2 : Int)])
/-- a list of tokens at l -/
def TkL (H : Hp) (l : Addr) (ts : List (List Nat × Nat)) : Prop := ∃ vs : List V, H l = some (.lst vs) ∧ Paired (TokAt H) vs ts
theorem TokAt.same {H H' : Hp} {v : V} {t : List Nat × Nat} (h : TokAt H v t) (s : Same H H') : TokAt H' v t := let ⟨p, e, q⟩ := h; ⟨p, e, s _ _ q⟩
/-- the list grows by a pair that was just laid at p -/
theorem TkL.app {H : Hp} {l p : Addr} {vs : List V} {ts : List (List Nat × Nat)} {t : List Nat × Nat} (hl : H l = some (.lst vs)) (hv : Paired (TokAt H) vs ts) (hp : H p = none) :
    TkL (upd (upd H p (.tup [.str ⟨t.1.toArray⟩, .int (t.2 : Int)])) l (.lst (vs ++ [.ref p]))) l (ts ++ [t]) := by
  have ne : p ≠ l := fun e => by rw [e, hl] at hp; cases hp
  refine ⟨_, upd_same, (L2.Paired.mapP hv fun v t' h => ?_).snoc ⟨p, rfl, by rw [upd_ne ne, upd_same]⟩⟩
  obtain ⟨q, e, hq⟩ := h
  refine ⟨q, e, ?_⟩
  rw [upd_ne (fun z => by rw [z, hl] at hq; cases hq), upd_ne (fun z => by rw [z, hp] at hq; cases hq)]
  exact hq
def spToks : Sp := fun vs H Q _ => ∃ z : Str, vs = [.str z] ∧ z.length ≤ 50000 ∧ ∀ (l : Addr) (H' : Hp), H l = none → Same H H' → TkL H' l (toks z.cps.toList 0 ++ [([], z.length)]) → Q (.ref l) H'
theorem cut_eq {z : Str} {a e : Nat} (ha : a ≤ z.length) (he : e ≤ z.length) : cutS z (some (a : Int)) (some (e : Int)) = ⟨((z.cps.toList.drop a).take (e - a)).toArray⟩ := by
  unfold cutS
  rw [HT.sIx_nat, HT.sIx_nat, Nat.min_eq_left ha, Nat.min_eq_left he]
theorem toks_len (s : List Nat) : ∀ (n a : Nat), s.length - a = n → (toks s a).length ≤ n := by
  intro n
  induction n using Nat.strongRecOn with
  | ind n ih =>
    intro a e
    by_cases hl : a < s.length
    · have hc : s[a]? = some s[a] := List.getElem?_eq_getElem hl
      have h1 := nxt_gt s a
      have h2 := ih (s.length - nxt s a) (by omega) (nxt s a) rfl
      cases g : gp s[a] with
      | true => rw [toks_gap hc g]; omega
      | false => rw [toks_tok hc g, List.length_cons]; omega
    · rw [toks_end hl]; exact Nat.zero_le _
section
variable {P : Program} {w : World} {K : PySem.W.Frag} {mg : Str → Option Value} {base : Heap}
theorem ok_tokens {f fE : Addr} {fd dE : FuncData} (F : Fun K "tokens_of" "tokens_of" S_tokens_of f fd) (FE : Fun K "_end_of_run" "_end_of_run" S_end_of_run fE dE) (bE : Binds K dE ["text", "begin"] []) (gE : mg "_end_of_run" = some (.ref fE)) (B : TkB mg) : FnOk P w K mg base CX0 2 f fd ["text"] spToks := by
  have GE : FnOk P w K mg base CX0 1 fE dE ["text", "begin"] spEnd := ok_end FE B
  refine F.ok sc_tokens_of (fun vs H Q E h => ?_) (fun cdv A outer s H vs Q E hr h => ?_)
  · obtain ⟨z, rfl, _⟩ := h; rfl
  · obtain ⟨z, rfl, hz, q⟩ := h
    obtain ⟨t1, m1⟩ := B.gap
    refine ⟨_, pss_cons (ps_set (i := 1) sc_tokens_of.nd rfl (Or.inl rfl) (pe_lst pa_nil))
      (pss_cons (ps_set (i := 2) sc_tokens_of.nd rfl (Or.inl rfl) pe_int)
      (pss_cons (ps_while PassesOwn.never (pt_cmpR op_lt (pv 2) (pe_callB call_len_str (by rfl) B.len PySem.boot_len (pa_cons (pv 0) pa_nil)) (nomark _))
        (pss_cons (ps_set (i := 3) sc_tokens_of.nd rfl (Or.inl rfl) (pe_callB (call_max2 rfl) (by rfl) B.max (by decide +kernel) (pa_cons (pe_op op_add (pv 2) pe_int) (pa_cons (pe_call GE hr (by rfl) gE FE.kp bE .nil pass0 (pa_cons (pv 0) (pa_cons (pv 2) pa_nil))) pa_nil))))
        (pss_cons (ps_if (pt_cmpR op_notInS (pe_ix ix_str (pv 0) (pv 2) (fun _ _ => rfl)) (pe_glob (by rfl) m1 (v := .str GAP) ⟨t1, rfl⟩) (by rfl))
          (pss_one (ps_expr (pe_bm PySem.F.plainAttrs_list PySem.F.slot_list_append PySem.F.type_list_append mt_append (pv 1) (pa_cons (pe_tup (pa_cons (pe_slice sl_str (pv 0) (po_some (pv 2)) (po_some (pv 3))) (pa_cons (pv 2) pa_nil))) pa_nil)))) pss_nil)
        (pss_one (ps_set (i := 2) sc_tokens_of.nd rfl (Or.inl rfl) (pv 3))))))
      (pss_cons (ps_expr (pe_bm PySem.F.plainAttrs_list PySem.F.slot_list_append PySem.F.type_list_append mt_append (pv 1) (pa_cons (pe_tup (pa_cons pe_str (pa_cons (pe_callB call_len_str (by rfl) B.len PySem.boot_len (pa_cons (pv 0) pa_nil)) pa_nil))) pa_nil)))
      (pss_one (ps_ret (pv 1)))))), ?_⟩
    refine ⟨Nat.zero_le _, fun l hl => ?_⟩
    have hsz : z.cps.toList.length = z.length := rfl
    refine ⟨fun m σ H' => ∃ (a : Nat) (vs : List V) (ts : List (List Nat × Nat)) (v3 : Option V), m = z.length - a ∧ a ≤ z.length ∧ σ = [some (.str z), some (.ref l), some (.int (a : Int)), v3] ∧ Same H H' ∧ H' l = some (.lst vs) ∧ Paired (TokAt H') vs ts ∧ ts ++ toks z.cps.toList a = toks z.cps.toList 0 ∧ ts.length ≤ a,
      ⟨_, 0, [], [], none, rfl, Nat.zero_le _, rfl, Same.new hl, upd_same, .nil, rfl, Nat.zero_le _⟩, ?_⟩
    rintro m σ H' ⟨a, vs, ts, v3, rfl, ha, rfl, s1, hv, hp, ht, hn⟩
    refine ⟨_, rfl, _, rfl, z, rfl, zL (by omega), _, _, rfl, rfl, _, rfl, ?_⟩
    refine ite2 (fun h0 => ?_) (fun h0 => ?_)
    · have hal : a < z.length := by have := of_decide_eq_true h0; omega
      have hc : z.cps.toList[a]? = some (z.cps.toList[a]) := List.getElem?_eq_getElem hal
      generalize z.cps.toList[a] = c at hc
      have g1 := nxt_gt z.cps.toList a
      have g2 : nxt z.cps.toList a ≤ z.length := nxt_le (s := z.cps.toList) hal
      have em : (if ((runE z.cps.toList a : Nat) : Int) > (a : Int) + 1 then ((runE z.cps.toList a : Nat) : Int) else (a : Int) + 1) = ((nxt z.cps.toList a : Nat) : Int) := by
        unfold nxt
        split <;> omega
      have next : ∀ (H2 : Hp) (vs2 : List V) (ts2 : List (List Nat × Nat)), Same H H2 → H2 l = some (.lst vs2) → Paired (TokAt H2) vs2 ts2 → ts2 ++ toks z.cps.toList (nxt z.cps.toList a) = toks z.cps.toList 0 → ts2.length ≤ a + 1 →
          ∃ m', m' < z.length - a ∧ ∃ (a' : Nat) (vs : List V) (ts : List (List Nat × Nat)) (v3 : Option V), m' = z.length - a' ∧ a' ≤ z.length ∧ [some (V.str z), some (.ref l), some (.int ((nxt z.cps.toList a : Nat) : Int)), some (.int ((nxt z.cps.toList a : Nat) : Int))] = [some (.str z), some (.ref l), some (.int (a' : Int)), v3] ∧ Same H H2 ∧ H2 l = some (.lst vs) ∧ Paired (TokAt H2) vs ts ∧ ts ++ toks z.cps.toList a' = toks z.cps.toList 0 ∧ ts.length ≤ a' :=
        fun H2 vs2 ts2 k1 k2 k3 k4 k5 => ⟨z.length - nxt z.cps.toList a, by omega, nxt z.cps.toList a, vs2, ts2, _, rfl, g2, rfl, k1, k2, k3, k4, by omega⟩
      refine ⟨fun σ' H2 => σ' = [some (V.str z), some (.ref l), some (.int ((nxt z.cps.toList a : Nat) : Int)), some (.int ((nxt z.cps.toList a : Nat) : Int))] ∧ ∃ (vs2 : List V) (ts2 : List (List Nat × Nat)), Same H H2 ∧ H2 l = some (.lst vs2) ∧ Paired (TokAt H2) vs2 ts2 ∧ ts2 ++ toks z.cps.toList (nxt z.cps.toList a) = toks z.cps.toList 0 ∧ ts2.length ≤ a + 1, ?_, ?_⟩
      · rintro σ' H2 ⟨rfl, vs2, ts2, k1, k2, k3, k4, k5⟩
        exact next H2 vs2 ts2 k1 k2 k3 k4 k5
      refine ⟨_, rfl, _, _, rfl, rfl, _, rfl, _, rfl, z, a, rfl, by omega, ha, _, _, rfl, ?_⟩
      rw [em]
      refine ⟨_, rfl, _, rfl, z, _, c, rfl, rfl, zL (by omega), atN hc, c, GAP, rfl, rfl, _, rfl, ?_⟩
      refine ite2 (fun h1 => ?_) (fun h1 => ?_)
      · have gf : gp c = false := by unfold gp; simpa using h1
        have vl : vs.length = ts.length := hp.length
        refine ⟨_, rfl, .inl ⟨rfl, _, .of hv⟩, _, rfl, _, rfl, _, rfl, _, rfl, _, rfl, z, rfl, zL (by omega), _, rfl, lenS (by simp), fun p hpn => ?_⟩
        have ne : p ≠ l := fun e => by rw [e, hv] at hpn; cases hpn
        refine ⟨l, vs, .ref p, rfl, rfl, by rw [upd_ne ne.symm]; exact hv, Nat.lt_of_le_of_lt (show vs.length ≤ 50000 by omega) (by decide), ?_⟩
        rw [cut_eq ha g2]
        obtain ⟨vs2, k2, k3⟩ := TkL.app (t := ((z.cps.toList.drop a).take (nxt z.cps.toList a - a), a)) hv hp hpn
        refine ⟨_, rfl, rfl, vs2, _, (s1.upN hpn).upd0 hl, k2, k3, ?_, ?_⟩
        · rw [List.append_assoc, List.singleton_append, ← toks_tok hc gf]
          exact ht
        · rw [List.length_append, List.length_singleton]; omega
      · have gt : gp c = true := by unfold gp; simpa using h1
        refine ⟨_, rfl, rfl, vs, ts, s1, hv, hp, ?_, by omega⟩
        rw [← toks_gap hc gt]
        exact ht
    · have hE : ¬ a < z.length := fun k => h0 (decide_eq_true (by omega))
      rw [toks_end (s := z.cps.toList) hE, List.append_nil] at ht
      subst ht
      have vl : vs.length = (toks z.cps.toList 0).length := hp.length
      refine ⟨_, rfl, .inl ⟨rfl, _, .of hv⟩, _, rfl, z, rfl, zL (by omega), lenS (by simp), fun p hpn => ?_⟩
      have ne : p ≠ l := fun e => by rw [e, hv] at hpn; cases hpn
      refine ⟨l, vs, .ref p, rfl, rfl, by rw [upd_ne ne.symm]; exact hv, Nat.lt_of_le_of_lt (show vs.length ≤ 50000 by omega) (by decide), ?_⟩
      refine ⟨_, rfl, q l _ hl ((s1.upN hpn).upd0 hl) ?_⟩
      exact TkL.app (t := ([], z.length)) hv hp hpn
end

end K02

namespace K02
open PySem L2 SZ VR VX StX RT
/-! ### the class Reader -/
/-- a reader stands at R: its tokens ts, k of them passed -/
def RdAt (C : Addr) (H : Hp) (R : Addr) (ts : List (List Nat × Nat)) (k : Nat) : Prop := ∃ dx l : Addr, H R = some (.ins C dx [("_tokens", .ref l), ("_at", .int (k : Int))]) ∧ H dx = some (.own R) ∧ TkL H l ts
/-- all else is kept -/
def ButR (R : Addr) (H H' : Hp) : Prop := ∀ b o, H b = some o → b ≠ R → H' b = some o
theorem TkL.but {R l : Addr} {H H' : Hp} {ts : List (List Nat × Nat)} {C dx : Addr} {fs : List (Str × V)} (h : TkL H l ts) (hR : H R = some (.ins C dx fs)) (s : ButR R H H') : TkL H' l ts := by
  obtain ⟨vs, h1, h2⟩ := h
  refine ⟨vs, s _ _ h1 (fun e => by rw [e, hR] at h1; cases h1), L2.Paired.mapP h2 fun v t ⟨p, e, hp⟩ => ⟨p, e, s _ _ hp (fun e => by rw [e, hR] at hp; cases hp)⟩⟩
theorem RdAt.step {C R : Addr} {H : Hp} {dx l : Addr} {ts : List (List Nat × Nat)} {k : Nat} {j : Nat} (h1 : H R = some (.ins C dx [("_tokens", .ref l), ("_at", .int (k : Int))])) (h2 : H dx = some (.own R)) (h3 : TkL H l ts) :
    RdAt C (upd H R (.ins C dx [("_tokens", .ref l), ("_at", .int (j : Int))])) R ts j ∧ ButR R H (upd H R (.ins C dx [("_tokens", .ref l), ("_at", .int (j : Int))])) := by
  have b : ButR R H (upd H R (.ins C dx [("_tokens", .ref l), ("_at", .int (j : Int))])) := fun b o e n => by rw [upd_ne n]; exact e
  exact ⟨⟨dx, l, upd_same, b _ _ h2 (fun e => by rw [e, h1] at h2; cases h2), h3.but h1 b⟩, b⟩
/-- what the class's own objects say -/
structure RdC (K : PySem.W.Frag) (mg : Str → Option Value) (C : Addr) : Prop where
  kit : InsKit K C
  nT : NoAttr K C "_tokens"
  nA : NoAttr K C "_at"
theorem Paired.at' {α β : Type} {F : α → β → Prop} : ∀ {xs : List α} {ys : List β} {i : Nat} {y : β}, Paired F xs ys → ys[i]? = some y → ∃ x, xs[i]? = some x ∧ F x y
  | _, _, _, _, .nil, h => by simp at h
  | _, _, 0, _, .cons (a := a) f _, h => by
    simp at h
    subst h
    exact ⟨a, rfl, f⟩
  | _, _, i + 1, _, .cons _ r, h => by
    obtain ⟨x, e, f⟩ := Paired.at' r (by simpa using h)
    exact ⟨x, by simpa using e, f⟩
/-- the next token, the reader as it was -/
def spTok (C : Addr) : Sp := fun vs H Q _ => ∃ (R : Addr) (ts : List (List Nat × Nat)) (k : Nat) (t : List Nat × Nat), vs = [.ref R] ∧ RdAt C H R ts k ∧ ts[k]? = some t ∧ Q (.str ⟨t.1.toArray⟩) H
def spPlace (C : Addr) : Sp := fun vs H Q _ => ∃ (R : Addr) (ts : List (List Nat × Nat)) (k : Nat) (t : List Nat × Nat), vs = [.ref R] ∧ RdAt C H R ts k ∧ ts[k]? = some t ∧ Q (.int (t.2 : Int)) H
def spPassAny (C : Addr) : Sp := fun vs H Q _ => ∃ (R : Addr) (ts : List (List Nat × Nat)) (k : Nat) (t : List Nat × Nat), vs = [.ref R] ∧ RdAt C H R ts k ∧ ts[k]? = some t ∧ ∀ H', RdAt C H' R ts (k + 1) → ButR R H H' → Q (.str ⟨t.1.toArray⟩) H'
def spPasses (C : Addr) : Sp := fun vs H Q _ => ∃ (R : Addr) (ts : List (List Nat × Nat)) (k : Nat) (t : List Nat × Nat) (x : Str), vs = [.ref R, .str x] ∧ RdAt C H R ts k ∧ ts[k]? = some t ∧
  ((⟨t.1.toArray⟩ ≠ x ∧ Q (.bl false) H) ∨ (⟨t.1.toArray⟩ = x ∧ ∀ H', RdAt C H' R ts (k + 1) → ButR R H H' → Q (.bl true) H'))
def spRdInit (C : Addr) : Sp := fun vs H Q _ => ∃ (R dx : Addr) (z : Str), vs = [.ref R, .str z] ∧ H R = some (.ins C dx []) ∧ H dx = some (.own R) ∧ z.length ≤ 50000 ∧ ∀ H' : Hp, ButR R H H' → RdAt C H' R (toks z.cps.toList 0 ++ [([], z.length)]) 0 → Q .non H'
section
variable {P : Program} {w : World} {K : PySem.W.Frag} {mg : Str → Option Value} {base : Heap} {C : Addr}
theorem ok_token {f : Addr} {fd : FuncData} (F : Fun K "token" "Reader.token" S_Reader_token f fd) (Z : RdC K mg C) : FnOk P w K mg base CX0 1 f fd ["self"] (spTok C) := by
  refine F.ok sc_Reader_token (fun vs H Q E h => ?_) (fun cdv A outer s H vs Q E hr h => ?_)
  · obtain ⟨R, ts, k, t, rfl, _⟩ := h; rfl
  · obtain ⟨R, ts, k, t, rfl, ⟨dx, l, hR, ho, vs, hl, hp⟩, hk, q⟩ := h
    obtain ⟨v, hv, p, rfl, hT⟩ := Paired.at' hp hk
    refine ⟨_, pss_cons (ps_asg (pe_ix ix_list (pe_fld (pv 0) rfl) (pe_fld (pv 0) rfl) (fun _ _ => rfl)) (pg_tup rfl (pgs_cons (pg_name (i := 1) sc_Reader_token.nd rfl (Or.inl rfl)) (pgs_cons (pg_name (i := 2) sc_Reader_token.nd rfl (Or.inl rfl)) pgs_nil))))
      (pss_one (ps_ret (pv 1))), ?_⟩
    refine ⟨_, rfl, R, C, dx, _, .ref l, rfl, hR, Z.kit.cl, Z.nT, rfl, _, rfl, R, C, dx, _, .int (k : Int), rfl, hR, Z.kit.cl, Z.nA, rfl, ?_⟩
    refine ⟨l, vs, (k : Int), .ref p, rfl, rfl, .of hl, atN hv, ?_⟩
    refine ⟨p, _, rfl, .of hT, rfl, _, _, rfl, _, _, rfl, rfl, ?_⟩
    exact ⟨_, rfl, q⟩
theorem ok_place {f : Addr} {fd : FuncData} (F : Fun K "place" "Reader.place" S_Reader_place f fd) (Z : RdC K mg C) : FnOk P w K mg base CX0 1 f fd ["self"] (spPlace C) := by
  refine F.ok sc_Reader_place (fun vs H Q E h => ?_) (fun cdv A outer s H vs Q E hr h => ?_)
  · obtain ⟨R, ts, k, t, rfl, _⟩ := h; rfl
  · obtain ⟨R, ts, k, t, rfl, ⟨dx, l, hR, ho, vs, hl, hp⟩, hk, q⟩ := h
    obtain ⟨v, hv, p, rfl, hT⟩ := Paired.at' hp hk
    refine ⟨_, pss_cons (ps_asg (pe_ix ix_list (pe_fld (pv 0) rfl) (pe_fld (pv 0) rfl) (fun _ _ => rfl)) (pg_tup rfl (pgs_cons (pg_name (i := 1) sc_Reader_place.nd rfl (Or.inl rfl)) (pgs_cons (pg_name (i := 2) sc_Reader_place.nd rfl (Or.inl rfl)) pgs_nil))))
      (pss_one (ps_ret (pv 2))), ?_⟩
    refine ⟨_, rfl, R, C, dx, _, .ref l, rfl, hR, Z.kit.cl, Z.nT, rfl, _, rfl, R, C, dx, _, .int (k : Int), rfl, hR, Z.kit.cl, Z.nA, rfl, ?_⟩
    refine ⟨l, vs, (k : Int), .ref p, rfl, rfl, .of hl, atN hv, ?_⟩
    refine ⟨p, _, rfl, .of hT, rfl, _, _, rfl, _, _, rfl, rfl, ?_⟩
    exact ⟨_, rfl, q⟩
theorem succ_int (k : Nat) : V.int ((k : Int) + 1) = V.int ((k + 1 : Nat) : Int) := by congr 1
theorem ok_pass_any {f fT : Addr} {fd dT : FuncData} (F : Fun K "pass_any" "Reader.pass_any" S_Reader_pass_any f fd) (FT : Fun K "token" "Reader.token" S_Reader_token fT dT) (bT : Binds K dT ["self"] []) (MT : Meth K C "token" fT) (Z : RdC K mg C) : FnOk P w K mg base CX0 2 f fd ["self"] (spPassAny C) := by
  have GT : FnOk P w K mg base CX0 1 fT dT ["self"] (spTok C) := ok_token FT Z
  refine F.ok sc_Reader_pass_any (fun vs H Q E h => ?_) (fun cdv A outer s H vs Q E hr h => ?_)
  · obtain ⟨R, ts, k, t, rfl, _⟩ := h; rfl
  · obtain ⟨R, ts, k, t, rfl, hRd, hk, q⟩ := h
    obtain ⟨dx, l, hR, ho, hL⟩ := id hRd
    refine ⟨_, pss_cons (ps_set (i := 1) sc_Reader_pass_any.nd rfl (Or.inl rfl) (pe_meth0 (pv 0) Z.kit.cl MT GT hr bT .nil pass0))
      (pss_cons (ps_fldaug (pv 0) pe_int in_add) (pss_one (ps_ret (pv 1)))), ?_⟩
    refine ⟨_, rfl, R, dx, _, rfl, hR, rfl, R, ts, k, t, rfl, hRd, hk, ?_⟩
    refine ⟨_, rfl, R, C, dx, _, .int (k : Int), rfl, hR, Z.kit.cl, Z.nA, rfl, (k : Int), 1, rfl, rfl, dx, _, hR, (by show 2 < 1000; decide), ?_⟩
    rw [succ_int]
    obtain ⟨s1, s2⟩ := RdAt.step (j := k + 1) hR ho hL
    exact ⟨_, rfl, q _ s1 s2⟩
theorem ok_passes {f fT : Addr} {fd dT : FuncData} (F : Fun K "passes" "Reader.passes" S_Reader_passes f fd) (FT : Fun K "token" "Reader.token" S_Reader_token fT dT) (bT : Binds K dT ["self"] []) (MT : Meth K C "token" fT) (Z : RdC K mg C) : FnOk P w K mg base CX0 2 f fd ["self", "token"] (spPasses C) := by
  have GT : FnOk P w K mg base CX0 1 fT dT ["self"] (spTok C) := ok_token FT Z
  refine F.ok sc_Reader_passes (fun vs H Q E h => ?_) (fun cdv A outer s H vs Q E hr h => ?_)
  · obtain ⟨R, ts, k, t, x, rfl, _⟩ := h; rfl
  · obtain ⟨R, ts, k, t, x, rfl, hRd, hk, q⟩ := h
    obtain ⟨dx, l, hR, ho, hL⟩ := id hRd
    refine ⟨_, pss_cons (ps_if (pt_cmpR op_ne (pe_meth0 (pv 0) Z.kit.cl MT GT hr bT .nil pass0) (pv 1) (nomark _)) (pss_one (ps_ret pe_bl)) pss_nil)
      (pss_cons (ps_fldaug (pv 0) pe_int in_add) (pss_one (ps_ret pe_bl))), ?_⟩
    refine ⟨_, rfl, R, dx, _, rfl, hR, rfl, R, ts, k, t, rfl, hRd, hk, _, rfl, rfl, _, rfl, ?_⟩
    rcases q with ⟨ne, q⟩ | ⟨e, q⟩
    · rw [decide_eq_false (p := V.str ⟨t.1.toArray⟩ = V.str x) (fun z => ne (V.str.inj z))]
      exact iteT q
    · rw [decide_eq_true (p := V.str ⟨t.1.toArray⟩ = V.str x) (by rw [e])]
      refine iteF ?_
      refine ⟨_, rfl, R, C, dx, _, .int (k : Int), rfl, hR, Z.kit.cl, Z.nA, rfl, (k : Int), 1, rfl, rfl, dx, _, hR, (by show 2 < 1000; decide), ?_⟩
      rw [succ_int]
      obtain ⟨s1, s2⟩ := RdAt.step (j := k + 1) hR ho hL
      exact q _ s1 s2
theorem ok_rd_init {f fT fE : Addr} {fd dT dE : FuncData} (F : Fun K "__init__" "Reader.__init__" S_Reader___init__ f fd) (FT : Fun K "tokens_of" "tokens_of" S_tokens_of fT dT) (bT : Binds K dT ["text"] []) (gT : mg "tokens_of" = some (.ref fT))
    (FE : Fun K "_end_of_run" "_end_of_run" S_end_of_run fE dE) (bE : Binds K dE ["text", "begin"] []) (gE : mg "_end_of_run" = some (.ref fE)) (B : TkB mg) (Z : RdC K mg C) : FnOk P w K mg base CX0 3 f fd ["self", "text"] (spRdInit C) := by
  have GT : FnOk P w K mg base CX0 2 fT dT ["text"] spToks := ok_tokens FT FE bE gE B
  refine F.ok sc_Reader___init__ (fun vs H Q E h => ?_) (fun cdv A outer s H vs Q E hr h => ?_)
  · obtain ⟨R, dx, z, rfl, _⟩ := h; rfl
  · obtain ⟨R, dx, z, rfl, hR, ho, hz, q⟩ := h
    refine ⟨_, pss_cons (ps_fld (pv 0) (pe_call GT hr (by rfl) gT FT.kp bT .nil pass0 (pa_cons (pv 1) pa_nil)) rfl) (pss_one (ps_fld (pv 0) pe_int rfl)), ?_⟩
    refine ⟨_, rfl, z, rfl, hz, fun l H1 hl s1 hL => ?_⟩
    have hR1 := s1 _ _ hR
    refine ⟨_, rfl, R, C, dx, [], rfl, hR1, Z.kit.cl, Z.nT, (by show 0 < 1000; decide), ?_⟩
    refine ⟨_, rfl, R, C, dx, _, rfl, upd_same, Z.kit.cl, Z.nA, (by show 1 < 1000; decide), ?_⟩
    have b1 : ButR R H1 (upd (upd H1 R (.ins C dx (putF "_tokens" (.ref l) []))) R (.ins C dx (putF "_at" (.int 0) (putF "_tokens" (.ref l) [])))) := fun b o e n => by rw [upd_ne n, upd_ne n]; exact e
    have ho1 := s1 _ _ ho
    refine q _ (fun b o e n => b1 _ _ (s1 _ _ e) n) ⟨dx, l, upd_same, b1 _ _ ho1 (fun e => by rw [e, hR1] at ho1; cases ho1), hL.but hR1 b1⟩
end

end K02

namespace K02
open PySem L2 SZ VR VX StX RT
/-! ### raise InvalidSyntax(position) -/
/-- the class InvalidSyntax and its __init__ -/
structure SxC (P : Program) (w : World) (K : PySem.W.Frag) (mg : Str → Option Value) (base : Heap) (x : Str) (C : Addr) (f : Str) : Prop where
  O : OexC K C
  m : mg x = some (.ref C)
  i : ∃ (fI : Addr) (fd : FuncData), PySem.W.findIn K (.ref C) "__init__" = some (some (.ref fI)) ∧ PySem.W.typeIn K (.ref fI) = some (.type "function") ∧ FnOk P w K mg base CX0 1 fI fd [("self" : Str), f] (spOx K C f) ∧ Binds K fd [("self" : Str), f] []
/-- te, for any stronger wish -/
def tMono (te : TE) : TE := fun σ H Q => ∃ Q0 : VK, te σ H Q0 ∧ ∀ v H1, Q0 v H1 → Q v H1
theorem pe_tMono {X : Cx} {e : Expr} {te : TE} (he : PE X e te) : PE X e (tMono te) := ⟨fun pins s σ H Q I ⟨Q0, h, k⟩ => wpAny_mono (he.run pins s σ H Q0 I h) (fun u s' ⟨x, H1, I1, r, q⟩ => ⟨x, H1, I1, r, k _ _ q⟩) fun _ _ z => z⟩
/-- C(e) is made and raised: its dict is d, all else is kept -/
def tRaiseX (C : Addr) (f : Str) (te : TE) (W : WX) : TS := fun _ σ H => te σ H fun v H1 => ∀ (d : Addr) (H' : Hp), H1 d = none → Same H1 H' → H' d = some (.xd [(f, v)]) → W (.ref C) (some d) σ H'
theorem ps_raiseX {X : Cx} {W : WX} {x : Str} {C : Addr} {f : Str} {e : Expr} {te : TE} {p cpos pos : Pos} (G : SxC X.prog X.w X.K X.mg X.base x C f) (hc : X.calm = true) (tk : Takes X W) (hr : Room 2 X.A) (he : PE X e te) (hg : Gl X x := by rfl) (hdb : (x == ("__debug__" : Str)) = false := by decide)
    (hs : starEach [e] X.env = (false, eval e X.env) :: starEach [] X.env := by rfl) : PS X (.Raise (some (.Call (.Name x p) [e] [] cpos)) none pos) (tRaiseX C f te W) := by
  obtain ⟨fI, fd, iC, tI, F, b⟩ := G.i
  have h := ps_raise (pos := pos) hc tk (pmk_oex (ta := tCons (tMono te) tNil) (es := []) (p := p) (pos := cpos) (dvs := []) (ds := []) G.O iC tI F hr b .nil pass0 hg G.m (pa_cons (pe_tMono he) pa_nil hs) hdb hs (by rfl))
  refine ⟨fun pins s σ H D I q => h.run pins s σ H D I ⟨_, q, fun v H1 k => ⟨by simp, fun a ha => ⟨a, v, rfl, upd_same, fun dx h1 h2 => ?_⟩⟩⟩⟩
  have hd : H1 dx = none := by rw [upd_ne h2] at h1; exact h1
  refine ⟨rfl, dx, [(f, v)], upd_same, by rw [upd_ne h2, upd_same], hd, k dx _ hd (fun b o e => ?_) upd_same⟩
  have b1 : b ≠ a := ne_of_none e ha
  have b2 : b ≠ dx := ne_of_none e hd
  rw [upd_ne b2, del_ne b1, upd_ne b1, upd_ne b2, upd_ne b1]
  exact e
/-- what leaves: InvalidSyntax at position p; all but the reader at R is kept -/
def Out (CS R : Addr) (H : Hp) (p : Nat) (E : XK) : Prop := ∀ (d : Addr) (H' : Hp), ButR R H H' → H' d = some (.xd [("position", .int (p : Int))]) → E (.ref CS) (some d) H'
def spOnly (C CS : Addr) : Sp := fun vs H Q E => ∃ (R : Addr) (ts : List (List Nat × Nat)) (k : Nat) (t : List Nat × Nat) (x : Str), vs = [.ref R, .str x] ∧ RdAt C H R ts k ∧ ts[k]? = some t ∧
  ((⟨t.1.toArray⟩ = x ∧ ∀ H', RdAt C H' R ts (k + 1) → ButR R H H' → Q .non H') ∨ (⟨t.1.toArray⟩ ≠ x ∧ Out CS R H t.2 E))
def spPassEnd (C CS : Addr) : Sp := fun vs H Q E => ∃ (R : Addr) (ts : List (List Nat × Nat)) (k : Nat) (t : List Nat × Nat), vs = [.ref R] ∧ RdAt C H R ts k ∧ ts[k]? = some t ∧
  ((t.1 = [] ∧ Q .non H) ∨ (t.1 ≠ [] ∧ Out CS R H t.2 E))
section
variable {P : Program} {w : World} {K : PySem.W.Frag} {mg : Str → Option Value} {base : Heap} {C CS : Addr}
theorem ok_pass_only {f fP fT fL : Addr} {fd dP dT dL : FuncData} (F : Fun K "pass_only" "Reader.pass_only" S_Reader_pass_only f fd) (FP : Fun K "passes" "Reader.passes" S_Reader_passes fP dP) (bP : Binds K dP ["self", "token"] []) (MP : Meth K C "passes" fP)
    (FT : Fun K "token" "Reader.token" S_Reader_token fT dT) (bT : Binds K dT ["self"] []) (MT : Meth K C "token" fT) (FL : Fun K "place" "Reader.place" S_Reader_place fL dL) (bL : Binds K dL ["self"] []) (ML : Meth K C "place" fL) (Z : RdC K mg C) (G : SxC P w K mg base "InvalidSyntax" CS "position") :
    FnOk P w K mg base (L2.CX P w) 3 f fd ["self", "token"] (spOnly C CS) := by
  have GP : FnOk P w K mg base CX0 2 fP dP ["self", "token"] (spPasses C) := ok_passes FP FT bT MT Z
  have GL : FnOk P w K mg base CX0 1 fL dL ["self"] (spPlace C) := ok_place FL Z
  refine F.okX sc_Reader_pass_only (fun vs H Q E h => ?_) (fun cdv A outer s H vs Q E hr h => ?_)
  · obtain ⟨R, ts, k, t, x, rfl, _⟩ := h; rfl
  · obtain ⟨R, ts, k, t, x, rfl, hRd, hk, q⟩ := h
    obtain ⟨dx, l, hR, ho, hL⟩ := id hRd
    have hr1 : Room 1 _ := hr.mono (by decide)
    refine ⟨_, pss_one (ps_if (pt_not (pt_val (pe_meth (pv 0) Z.kit.cl MP GP hr bP .nil pass0 (pa_cons (pv 1) pa_nil))))
      (pss_one (ps_raiseX G rfl (takes_of rfl rfl rfl rfl) hr (pe_meth0 (pv 0) Z.kit.cl ML GL hr1 bL .nil pass0))) pss_nil), ?_⟩
    rcases q with ⟨e, q⟩ | ⟨ne, q⟩
    · refine ⟨_, rfl, R, dx, _, rfl, hR, rfl, _, rfl, R, ts, k, t, x, rfl, hRd, hk, .inr ⟨e, fun H' h1 h2 => ⟨true, rfl, ?_⟩⟩⟩
      refine iteF ?_
      exact q H' h1 h2
    · refine ⟨_, rfl, R, dx, _, rfl, hR, rfl, _, rfl, R, ts, k, t, x, rfl, hRd, hk, .inl ⟨ne, false, rfl, ?_⟩⟩
      refine iteT ?_
      refine ⟨_, rfl, R, dx, _, rfl, hR, rfl, R, ts, k, t, rfl, hRd, hk, fun d H' hd s1 h1 => ?_⟩
      exact q d H' (fun b o e _ => s1 _ _ e) h1
theorem ok_pass_end {f fT fL : Addr} {fd dT dL : FuncData} (F : Fun K "pass_end" "Reader.pass_end" S_Reader_pass_end f fd)
    (FT : Fun K "token" "Reader.token" S_Reader_token fT dT) (bT : Binds K dT ["self"] []) (MT : Meth K C "token" fT) (FL : Fun K "place" "Reader.place" S_Reader_place fL dL) (bL : Binds K dL ["self"] []) (ML : Meth K C "place" fL) (Z : RdC K mg C) (G : SxC P w K mg base "InvalidSyntax" CS "position") :
    FnOk P w K mg base (L2.CX P w) 3 f fd ["self"] (spPassEnd C CS) := by
  have GT : FnOk P w K mg base CX0 1 fT dT ["self"] (spTok C) := ok_token FT Z
  have GL : FnOk P w K mg base CX0 1 fL dL ["self"] (spPlace C) := ok_place FL Z
  refine F.okX sc_Reader_pass_end (fun vs H Q E h => ?_) (fun cdv A outer s H vs Q E hr h => ?_)
  · obtain ⟨R, ts, k, t, rfl, _⟩ := h; rfl
  · obtain ⟨R, ts, k, t, rfl, hRd, hk, q⟩ := h
    obtain ⟨dx, l, hR, ho, hL⟩ := id hRd
    have hr1 : Room 1 _ := hr.mono (by decide)
    refine ⟨_, pss_one (ps_if (pt_cmpR op_ne (pe_meth0 (pv 0) Z.kit.cl MT GT hr1 bT .nil pass0) pe_str (nomark _))
      (pss_one (ps_raiseX G rfl (takes_of rfl rfl rfl rfl) hr (pe_meth0 (pv 0) Z.kit.cl ML GL hr1 bL .nil pass0))) pss_nil), ?_⟩
    refine ⟨_, rfl, R, dx, _, rfl, hR, rfl, R, ts, k, t, rfl, hRd, hk, rfl, _, rfl, ?_⟩
    have e0 : (Str.ofString "") = ⟨#[]⟩ := by decide +kernel
    have em : decide (V.str ⟨t.1.toArray⟩ = V.str (Str.ofString "")) = decide (t.1 = []) := by
      rw [e0]
      refine decide_eq_decide.mpr ⟨fun z => ?_, fun z => by rw [z]⟩
      have z := V.str.inj z
      injection z with z
      simpa using z
    rw [em]
    rcases q with ⟨e, q⟩ | ⟨ne, q⟩
    · rw [decide_eq_true e]
      exact iteF q
    · rw [decide_eq_false ne]
      refine iteT ?_
      refine ⟨_, rfl, R, dx, _, rfl, hR, rfl, R, ts, k, t, rfl, hRd, hk, fun d H' hd s1 h1 => ?_⟩
      exact q d H' (fun b o e _ => s1 _ _ e) h1
end

end K02

namespace K02
open PySem L2 SZ VR VX StX RT
/-! ### names -/
abbrev KW : List Str := ["array", "for", "read", "write", "flush", "n"]
/-- a word that is no keyword -/
def isNm (z : Str) : Bool := isW z.cps.toList && !KW.contains z
structure TxB (K : PySem.W.Frag) (mg : Str → Option Value) : Prop where
  kw : ∃ a, mg "_KEYWORDS" = some (.ref a) ∧ ∀ H, SqT K H a (KW.map V.str)
  is : mg "isinstance" = none
  str : mg "str" = none
def spName (K : PySem.W.Frag) : Sp := fun vs H Q _ => ∃ v, vs = [v] ∧ ((∃ z : Str, v = .str z ∧ z.length ≤ 100000 ∧ Q (.bl (isNm z)) H) ∨ ∃ t, TyX K H v t ∧ PySem.W.kitOne K t (.type "str") = some false ∧ Q (.bl false) H)
theorem inV_str (z : Str) : ∀ l : List Str, inV (.str z) (l.map V.str) = l.contains z
  | [] => rfl
  | x :: l => by
    have ih := inV_str z l
    unfold inV at ih ⊢
    rw [List.map_cons, List.any_cons, ih, List.contains_cons]
    congr 1
    simp only [eqV]
    first | rfl | exact Bool.beq_comm .. | (rw [Bool.eq_iff_iff]; simp [eq_comm])
theorem flat_strs (l : List Str) : (l.map V.str).all flatV = true := by
  rw [List.all_map]
  exact List.all_eq_true.mpr fun _ _ => rfl
section
variable {P : Program} {w : World} {K : PySem.W.Frag} {mg : Str → Option Value} {base : Heap} {C CS : Addr}
theorem ok_is_name {f fW fE : Addr} {fd dW dE : FuncData} (F : Fun K "is_name" "is_name" S_is_name f fd) (FW : Fun K "is_word" "is_word" S_is_word fW dW) (bW : Binds K dW ["text"] []) (gW : mg "is_word" = some (.ref fW))
    (FE : Fun K "_end_of_run" "_end_of_run" S_end_of_run fE dE) (bE : Binds K dE ["text", "begin"] []) (gE : mg "_end_of_run" = some (.ref fE)) (B : TkB mg) (T : TxB K mg) : FnOk P w K mg base CX0 3 f fd ["value"] (spName K) := by
  have GW : FnOk P w K mg base CX0 2 fW dW ["text"] spWord := ok_is_word FW FE bE gE B
  refine F.ok sc_is_name (fun vs H Q E h => ?_) (fun cdv A outer s H vs Q E hr h => ?_)
  · obtain ⟨v, rfl, _⟩ := h; rfl
  · obtain ⟨v, rfl, q⟩ := h
    obtain ⟨a, ma, ha⟩ := T.kw
    refine ⟨_, pss_one (ps_ret (pe_and (pe_callB call_isi (by rfl) T.is (by decide +kernel) (pa_cons (pv 0) (pa_cons (pe_bltn (by rfl) T.str (u := .type "str") (v := .ty "str") (by decide +kernel) rfl) pa_nil)))
      (pe_and (pe_call GW hr (by rfl) gW FW.kp bW .nil pass0 (pa_cons (pv 0) pa_nil)) (pe_one (pe_cmpR op_notIn_seq (pv 0) (pe_glob (by rfl) ma (v := .ref a) rfl) (by rfl)))))), ?_⟩
    rcases q with ⟨z, rfl, hz, q⟩ | ⟨t, ty, kt, q⟩
    · refine ⟨_, rfl, .str z, .ty "str", .type "str", .type "str", true, rfl, .ty _, .base (.str z), if_pos (beq_self_eq_true _), true, rfl, ?_⟩
      refine iteT ?_
      refine ⟨_, rfl, z, rfl, hz, _, rfl, ?_⟩
      cases hw : isW z.cps.toList with
      | false =>
        have e : isNm z = false := by unfold isNm; rw [hw, Bool.false_and]
        rw [e] at q
        exact iteF q
      | true =>
        have e : isNm z = !KW.contains z := by unfold isNm; rw [hw, Bool.true_and]
        rw [e] at q
        refine iteT ?_
        refine ⟨_, rfl, a, KW.map V.str, rfl, .inr (ha H), rfl, flat_strs _, ?_⟩
        rw [inV_str]
        exact q
    · exact ⟨_, rfl, v, .ty "str", t, .type "str", false, rfl, .ty _, ty, kt, false, rfl, iteF q⟩
/-- _name(reader): the name, the reader behind it, or InvalidSyntax at it -/
def spRdName (C CS : Addr) : Sp := fun vs H Q E => ∃ (R : Addr) (ts : List (List Nat × Nat)) (k : Nat) (t : List Nat × Nat), vs = [.ref R] ∧ RdAt C H R ts k ∧ ts[k]? = some t ∧ t.1.length ≤ 100000 ∧
  ((isNm ⟨t.1.toArray⟩ = true ∧ ∀ H', RdAt C H' R ts (k + 1) → ButR R H H' → Q (.str ⟨t.1.toArray⟩) H') ∨ (isNm ⟨t.1.toArray⟩ = false ∧ Out CS R H t.2 E))
theorem ok_name {f fN fA fT fL fW fE : Addr} {fd dN dA dT dL dW dE : FuncData} (F : Fun K "_name" "_name" S_name f fd) (FN : Fun K "is_name" "is_name" S_is_name fN dN) (bN : Binds K dN ["value"] []) (gN : mg "is_name" = some (.ref fN))
    (FA : Fun K "pass_any" "Reader.pass_any" S_Reader_pass_any fA dA) (bA : Binds K dA ["self"] []) (MA : Meth K C "pass_any" fA)
    (FT : Fun K "token" "Reader.token" S_Reader_token fT dT) (bT : Binds K dT ["self"] []) (MT : Meth K C "token" fT) (FL : Fun K "place" "Reader.place" S_Reader_place fL dL) (bL : Binds K dL ["self"] []) (ML : Meth K C "place" fL)
    (FW : Fun K "is_word" "is_word" S_is_word fW dW) (bW : Binds K dW ["text"] []) (gW : mg "is_word" = some (.ref fW)) (FE : Fun K "_end_of_run" "_end_of_run" S_end_of_run fE dE) (bE : Binds K dE ["text", "begin"] []) (gE : mg "_end_of_run" = some (.ref fE))
    (B : TkB mg) (T : TxB K mg) (Z : RdC K mg C) (G : SxC P w K mg base "InvalidSyntax" CS "position") : FnOk P w K mg base (L2.CX P w) 4 f fd ["reader"] (spRdName C CS) := by
  have GN : FnOk P w K mg base CX0 3 fN dN ["value"] (spName K) := ok_is_name FN FW bW gW FE bE gE B T
  have GA : FnOk P w K mg base CX0 2 fA dA ["self"] (spPassAny C) := ok_pass_any FA FT bT MT Z
  have GT : FnOk P w K mg base CX0 1 fT dT ["self"] (spTok C) := ok_token FT Z
  have GL : FnOk P w K mg base CX0 1 fL dL ["self"] (spPlace C) := ok_place FL Z
  refine F.okX sc_name (fun vs H Q E h => ?_) (fun cdv A outer s H vs Q E hr h => ?_)
  · obtain ⟨R, ts, k, t, rfl, _⟩ := h; rfl
  · obtain ⟨R, ts, k, t, rfl, hRd, hk, hz, q⟩ := h
    obtain ⟨dx, l, hR, ho, hL⟩ := id hRd
    have hr1 : Room 1 _ := hr.mono (by decide)
    have hr2 : Room 2 _ := hr.mono (by decide)
    refine ⟨_, pss_cons (ps_if (pt_not (pt_val (pe_call GN hr (by rfl) gN FN.kp bN .nil pass0 (pa_cons (pe_meth0 (pv 0) Z.kit.cl MT GT hr1 bT .nil pass0) pa_nil))))
        (pss_one (ps_raiseX G rfl (takes_of rfl rfl rfl rfl) hr2 (pe_meth0 (pv 0) Z.kit.cl ML GL hr1 bL .nil pass0))) pss_nil)
      (pss_one (ps_ret (pe_meth0 (pv 0) Z.kit.cl MA GA hr2 bA .nil pass0))), ?_⟩
    refine ⟨_, rfl, R, dx, _, rfl, hR, rfl, R, ts, k, t, rfl, hRd, hk, _, rfl, .inl ⟨_, rfl, hz, _, rfl, ?_⟩⟩
    rcases q with ⟨e, q⟩ | ⟨e, q⟩
    · rw [e]
      refine iteF ?_
      exact ⟨_, rfl, R, dx, _, rfl, hR, rfl, R, ts, k, t, rfl, hRd, hk, q⟩
    · rw [e]
      refine iteT ?_
      refine ⟨_, rfl, R, dx, _, rfl, hR, rfl, R, ts, k, t, rfl, hRd, hk, fun d H' hd s1 h1 => ?_⟩
      exact q d H' (fun b o e _ => s1 _ _ e) h1
end

end K02

namespace K02
open PySem L2 SZ VR VX StX RT
/-! ### what the parser tells of a list of tokens -/
inductive Res (α : Type) where
  | ok (v : α) (k : Nat)
  | syn (p : Nat)
  | big (w : Str)
def tk (ts : List (List Nat × Nat)) (k : Nat) : List Nat := ((ts[k]?).getD ([], 0)).1
def ps (ts : List (List Nat × Nat)) (k : Nat) : Nat := ((ts[k]?).getD ([], 0)).2
theorem tk_of {ts : List (List Nat × Nat)} {k : Nat} {t : List Nat × Nat} (h : ts[k]? = some t) : tk ts k = t.1 ∧ ps ts k = t.2 := by
  unfold tk ps
  rw [h]
  exact ⟨rfl, rfl⟩
theorem at_tk {ts : List (List Nat × Nat)} {k : Nat} (h : k < ts.length) : ts[k]? = some (tk ts k, ps ts k) := by
  unfold tk ps
  rw [List.getElem?_eq_getElem h]
  rfl
/-- the end stands behind every token, and none is long -/
structure Snt (ts : List (List Nat × Nat)) : Prop where
  go : ∀ k, k < ts.length → tk ts k ≠ [] → k + 1 < ts.length
  sm : ∀ k, (tk ts k).length ≤ 50000
  ln : ts.length ≤ 100000
def isNmL (s : List Nat) : Bool := isNm ⟨s.toArray⟩
def numVal (s : List Nat) : Int := ((NumText.digitsVal s : Nat) : Int)
/-- TooLarge(w) leaves; all but the reader at R is kept -/
def OutW (CT R : Addr) (H : Hp) (x : Str) (E : XK) : Prop := ∀ (d : Addr) (H' : Hp), ButR R H H' → H' d = some (.xd [("word", .str x)]) → E (.ref CT) (some d) H'
theorem ButR.trans {R : Addr} {H H1 H2 : Hp} (a : ButR R H H1) (b : ButR R H1 H2) : ButR R H H2 := fun c o e n => b c o (a c o e n) n
theorem ButR.of {R : Addr} {H H' : Hp} (s : Same H H') : ButR R H H' := fun b o e _ => s b o e
theorem RdAt.same {C R : Addr} {H H' : Hp} {ts : List (List Nat × Nat)} {k : Nat} (h : RdAt C H R ts k) (s : Same H H') : RdAt C H' R ts k := by
  obtain ⟨dx, l, h1, h2, vs, h3, h4⟩ := h
  exact ⟨dx, l, s _ _ h1, s _ _ h2, vs, s _ _ h3, L2.Paired.mapP h4 fun v t q => q.same s⟩
theorem dg_iff (c : Nat) : dg c = (decide (48 ≤ c) && decide (c ≤ 57)) := by
  have e : DIG.cps.toList = [48, 49, 50, 51, 52, 53, 54, 55, 56, 57] := by decide +kernel
  unfold dg
  rw [e, Bool.eq_iff_iff]
  simp
  omega
theorem isN_val {s : List Nat} (h : isN s = true) (hl : s.length ≤ 4300) : PySem.intText? ⟨s.toArray⟩ = some (numVal s) := by
  cases s with
  | nil => cases h
  | cons c r =>
    have h2 : (c :: r).all dg = true := by
      have z : (!(decide (c = 48) && !r.isEmpty) && (c :: r).all dg) = true := h
      exact (Bool.and_eq_true_iff.mp z).2
    refine SX.int_S ?_ (by simp) hl
    rw [← h2]
    congr 1
    funext x
    exact (dg_iff x).symm
def spNumber (C CS CT : Addr) : Sp := fun vs H Q E => ∃ (R : Addr) (ts : List (List Nat × Nat)) (k : Nat), vs = [.ref R] ∧ RdAt C H R ts k ∧ k < ts.length ∧ Snt ts ∧
  ((isN (tk ts k) = false ∧ Out CS R H (ps ts k) E) ∨ (isN (tk ts k) = true ∧ 150 < (tk ts k).length ∧ OutW CT R H "numbers" E) ∨
   (isN (tk ts k) = true ∧ (tk ts k).length ≤ 150 ∧ ∀ H', RdAt C H' R ts (k + 1) → ButR R H H' → Q (.int (numVal (tk ts k))) H'))
theorem Out.but {CS R : Addr} {H H1 : Hp} {p : Nat} {E : XK} (h : Out CS R H p E) (b : ButR R H H1) : Out CS R H1 p E := fun d H' b' e => h d H' (b.trans b') e
theorem OutW.but {CS R : Addr} {H H1 : Hp} {p : Str} {E : XK} (h : OutW CS R H p E) (b : ButR R H H1) : OutW CS R H1 p E := fun d H' b' e => h d H' (b.trans b') e
section
variable {P : Program} {w : World} {K : PySem.W.Frag} {mg : Str → Option Value} {base : Heap} {C CS CT : Addr}
theorem ok_number {f fA fT fL fI : Addr} {fd dA dT dL dI : FuncData} (F : Fun K "pass_number" "Reader.pass_number" S_Reader_pass_number f fd) (FA : Fun K "pass_any" "Reader.pass_any" S_Reader_pass_any fA dA) (bA : Binds K dA ["self"] []) (MA : Meth K C "pass_any" fA)
    (FT : Fun K "token" "Reader.token" S_Reader_token fT dT) (bT : Binds K dT ["self"] []) (MT : Meth K C "token" fT) (FL : Fun K "place" "Reader.place" S_Reader_place fL dL) (bL : Binds K dL ["self"] []) (ML : Meth K C "place" fL)
    (FI : Fun K "is_number" "is_number" S_is_number fI dI) (bI : Binds K dI ["text"] []) (gI : mg "is_number" = some (.ref fI)) (B : TkB mg)
    (hlen : mg "len" = none) (hint : mg "int" = none) (hmd : ∃ t, mg "_MOST_DIGITS" = some (.int 150 t))
    (Z : RdC K mg C) (GS : SxC P w K mg base "InvalidSyntax" CS "position") (G : SxC P w K mg base "TooLarge" CT "word") : FnOk P w K mg base (L2.CX P w) 3 f fd ["self"] (spNumber C CS CT) := by
  have GA : FnOk P w K mg base CX0 2 fA dA ["self"] (spPassAny C) := ok_pass_any FA FT bT MT Z
  have GT : FnOk P w K mg base CX0 1 fT dT ["self"] (spTok C) := ok_token FT Z
  have GL : FnOk P w K mg base CX0 1 fL dL ["self"] (spPlace C) := ok_place FL Z
  have GI : FnOk P w K mg base CX0 1 fI dI ["text"] spNum := ok_is_number FI B
  obtain ⟨t0, m0⟩ := hmd
  refine F.okX sc_Reader_pass_number (fun vs H Q E h => ?_) (fun cdv A outer s H vs Q E hr h => ?_)
  · obtain ⟨R, ts, k, rfl, _⟩ := h; rfl
  · obtain ⟨R, ts, k, rfl, hRd, hkl, hS, q⟩ := h
    obtain ⟨dx, l, hR, ho, hL⟩ := id hRd
    have hk := at_tk hkl
    have hr1 : Room 1 _ := hr.mono (by decide)
    refine ⟨_, pss_cons (ps_if (pt_not (pt_val (pe_call GI hr1 (by rfl) gI FI.kp bI .nil pass0 (pa_cons (pe_meth0 (pv 0) Z.kit.cl MT GT hr1 bT .nil pass0) pa_nil))))
        (pss_one (ps_raiseX GS rfl (takes_of rfl rfl rfl rfl) hr (pe_meth0 (pv 0) Z.kit.cl ML GL hr1 bL .nil pass0))) pss_nil)
      (pss_cons (ps_if (pt_cmpR op_gt (pe_callB call_len_str (by rfl) hlen PySem.boot_len (pa_cons (pe_meth0 (pv 0) Z.kit.cl MT GT hr1 bT .nil pass0) pa_nil)) (pe_glob (by rfl) m0 (v := .int 150) ⟨t0, rfl⟩) (nomark _))
        (pss_one (ps_raiseX G rfl (takes_of rfl rfl rfl rfl) hr pe_str)) pss_nil)
      (pss_one (ps_ret (pe_callTy call_int_str (by rfl) hint (by decide +kernel) (pa_cons (pe_meth0 (pv 0) Z.kit.cl MA GA hr bA .nil pass0) pa_nil))))), ?_⟩
    have hlz : (⟨(tk ts k).toArray⟩ : Str).length = (tk ts k).length := by show (tk ts k).toArray.size = _; simp
    have hsm := hS.sm k
    refine ⟨_, rfl, R, dx, _, rfl, hR, rfl, R, ts, k, _, rfl, hRd, hk, _, rfl, by rw [hlz]; exact hsm, fun H1 s1 => ⟨_, rfl, ?_⟩⟩
    have hRd1 := hRd.same s1
    have hR1 := s1 _ _ hR
    rcases q with ⟨hN, q⟩ | q
    · rw [hN]
      refine iteT ?_
      refine ⟨_, rfl, R, dx, _, rfl, hR1, rfl, R, ts, k, _, rfl, hRd1, hk, fun d H' hd s2 h1 => ?_⟩
      exact q d H' ((ButR.of s1).trans (ButR.of s2)) h1
    have hN : isN (tk ts k) = true := by rcases q with ⟨h, _⟩ | ⟨h, _⟩ <;> exact h
    rw [hN]
    refine iteF ?_
    refine ⟨_, rfl, R, dx, _, rfl, hR1, rfl, R, ts, k, _, rfl, hRd1, hk, _, rfl, zL (by rw [hlz]; omega), _, _, rfl, rfl, _, rfl, ?_⟩
    rw [hlz]
    rcases q with ⟨_, hb, q⟩ | ⟨_, hb, q⟩
    · rw [decide_eq_true (p := (150 : Int) < ((tk ts k).length : Int)) (by omega)]
      refine iteT fun d H' hd s2 h1 => ?_
      exact q d H' ((ButR.of s1).trans (ButR.of s2)) h1
    · rw [decide_eq_false (p := (150 : Int) < ((tk ts k).length : Int)) (by omega)]
      refine iteF ?_
      refine ⟨_, rfl, R, dx, _, rfl, hR1, rfl, R, ts, k, _, rfl, hRd1, hk, fun H' h1 h2 => ⟨⟨(tk ts k).toArray⟩, numVal (tk ts k), rfl, isN_val hN (by omega), by rw [hlz]; omega, q H' h1 ((ButR.of s1).trans h2)⟩⟩
end

end K02

namespace K02
open PySem L2 SZ VR VX StX RT
/-! ### parts of a sum -/
def partLoop (ts : List (List Nat × Nat)) (idx : Bool) : Nat → Nat → Nat → Res (Nat × List Nat)
  | 0, _, _ => .syn 0
  | f + 1, k, pw =>
    if tk ts k = [110] then (if tk ts (k + 1) = [42] then partLoop ts idx f (k + 2) (pw + 1) else .ok (pw + 1, []) (k + 1))
    else if idx = true ∧ isNmL (tk ts k) = true then .ok (pw, tk ts k) (k + 1) else .syn (ps ts k)
def partFin (n : Int) : Res (Nat × List Nat) → Res (Int × Nat × List Nat)
  | .ok (pw, c) k => if 3 < pw then .big "degree" else .ok (n, pw, c) k
  | .syn p => .syn p
  | .big w => .big w
def partM (ts : List (List Nat × Nat)) (idx : Bool) (k : Nat) : Res (Int × Nat × List Nat) :=
  if isN (tk ts k) = true then (if 150 < (tk ts k).length then .big "numbers" else partFin (numVal (tk ts k)) (if tk ts (k + 1) = [42] then partLoop ts idx ts.length (k + 2) 0 else .ok (0, []) (k + 1)))
  else partFin 1 (partLoop ts idx ts.length k 0)
/-- how a def that reads at R leaves: with a value and the reader behind what was read, or by an error -/
def Ends' {α : Type} (C CS CT R : Addr) (H : Hp) (ts : List (List Nat × Nat)) (val : α → Hp → V → Prop) (r : Res α) (Q : VK) (E : XK) : Prop :=
  match r with
  | .ok v k => ∀ (x : V) (H' : Hp), RdAt C H' R ts k → k < ts.length → ButR R H H' → val v H' x → Q x H'
  | .syn p => Out CS R H p E
  | .big w => OutW CT R H w E
def spPart (C CS CT : Addr) : Sp := fun vs H Q E => ∃ (R : Addr) (ts : List (List Nat × Nat)) (k : Nat) (idx : Bool), vs = [.ref R, .bl idx] ∧ RdAt C H R ts k ∧ k < ts.length ∧ Snt ts ∧
  Ends' C CS CT R H ts (fun v H' x => ∃ p : Addr, x = .ref p ∧ H' p = some (.tup [.int v.1, .int (v.2.1 : Int), .str ⟨v.2.2.toArray⟩])) (partM ts idx k) Q E
theorem tkEq {s : List Nat} {c : Nat} {x : Str} (hx : x = ⟨#[c]⟩) : (⟨s.toArray⟩ : Str) = x ↔ s = [c] := by
  rw [hx]
  constructor
  · intro z
    injection z with z
    simpa using z
  · intro z
    rw [z]
structure PtB (mg : Str → Option Value) : Prop where
  pw : ∃ t, mg "_MOST_POWER" = some (.int 3 t)
/-- everything that reads names and numbers -/
structure RdS (P : Program) (w : World) (K : PySem.W.Frag) (mg : Str → Option Value) (base : Heap) (C CS CT : Addr) : Prop where
  Z : RdC K mg C
  tok : ∃ f fd, Meth K C "token" f ∧ Binds K fd ["self"] [] ∧ FnOk P w K mg base CX0 1 f fd ["self"] (spTok C)
  place : ∃ f fd, Meth K C "place" f ∧ Binds K fd ["self"] [] ∧ FnOk P w K mg base CX0 1 f fd ["self"] (spPlace C)
  any : ∃ f fd, Meth K C "pass_any" f ∧ Binds K fd ["self"] [] ∧ FnOk P w K mg base CX0 2 f fd ["self"] (spPassAny C)
  passes : ∃ f fd, Meth K C "passes" f ∧ Binds K fd ["self", "token"] [] ∧ FnOk P w K mg base CX0 2 f fd ["self", "token"] (spPasses C)
  isn : ∃ f fd, mg "is_number" = some (.ref f) ∧ PySem.W.keepIn K (.ref f) = true ∧ Binds K fd ["text"] [] ∧ FnOk P w K mg base CX0 1 f fd ["text"] spNum
  name : ∃ f fd, mg "_name" = some (.ref f) ∧ PySem.W.keepIn K (.ref f) = true ∧ Binds K fd ["reader"] [] ∧ FnOk P w K mg base (L2.CX P w) 4 f fd ["reader"] (spRdName C CS)
  number : ∃ f fd, Meth K C "pass_number" f ∧ Binds K fd ["self"] [] ∧ FnOk P w K mg base (L2.CX P w) 3 f fd ["self"] (spNumber C CS CT)
  GS : SxC P w K mg base "InvalidSyntax" CS "position"
  GT : SxC P w K mg base "TooLarge" CT "word"
section
variable {P : Program} {w : World} {K : PySem.W.Frag} {mg : Str → Option Value} {base : Heap} {C CS CT : Addr}
theorem ok_part {f : Addr} {fd : FuncData} (F : Fun K "_part" "_part" S_part f fd) (Y : RdS P w K mg base C CS CT) (B : PtB mg) : FnOk P w K mg base (L2.CX P w) 5 f fd ["reader", "in_index"] (spPart C CS CT) := by
  have Z := Y.Z
  obtain ⟨fT, dT, MT, bT, GTk⟩ := Y.tok
  obtain ⟨fL, dL, ML, bL, GL⟩ := Y.place
  obtain ⟨fP, dP, MP, bP, GP⟩ := Y.passes
  obtain ⟨fI, dI, gI, kI, bI, GI⟩ := Y.isn
  obtain ⟨fN, dN, gN, kN, bN, GN⟩ := Y.name
  obtain ⟨fU, dU, MU, bU, GU⟩ := Y.number
  obtain ⟨t0, m0⟩ := B.pw
  refine F.okX sc_part (fun vs H Q E h => ?_) (fun cdv A outer s H vs Q E hr h => ?_)
  · obtain ⟨R, ts, k, idx, rfl, _⟩ := h; rfl
  · obtain ⟨R, ts, k, idx, rfl, hRd, hkl, hS, q⟩ := h
    have hr1 : Room 1 _ := hr.mono (by decide)
    have hr2 : Room 2 _ := hr.mono (by decide)
    have hr3 : Room 3 _ := hr.mono (by decide)
    refine ⟨_, pss_cons (ps_set (i := 2) sc_part.nd rfl (Or.inl rfl) pe_int)
      (pss_cons (ps_set (i := 3) sc_part.nd rfl (Or.inl rfl) pe_int)
      (pss_cons (ps_set (i := 4) sc_part.nd rfl (Or.inl rfl) pe_str)
      (pss_cons (ps_set (i := 5) sc_part.nd rfl (Or.inl rfl) pe_bl)
      (pss_cons (ps_if (pt_val (pe_call GI hr1 (by rfl) gI kI bI .nil pass0 (pa_cons (pe_meth0 (pv 0) Z.kit.cl MT GTk hr1 bT .nil pass0) pa_nil)))
        (pss_cons (ps_set (i := 2) sc_part.nd rfl (Or.inl rfl) (pe_meth0 (pv 0) Z.kit.cl MU GU hr3 bU .nil (passes_call (takes_of rfl rfl rfl rfl) (fun _ _ _ _ h => h))))
        (pss_one (ps_set (i := 5) sc_part.nd rfl (Or.inl rfl) (pe_meth (pv 0) Z.kit.cl MP GP hr2 bP .nil pass0 (pa_cons pe_str pa_nil))))) pss_nil)
      (pss_cons (ps_while (passes_of rfl) (pt_val (pv 5))
        (pss_cons (ps_if (pt_val (pe_meth (pv 0) Z.kit.cl MP GP hr2 bP .nil pass0 (pa_cons pe_str pa_nil))) (pss_one (ps_aug (i := 3) sc_part.nd rfl (.inl rfl) pe_int ip_add))
          (pss_one (ps_if (pt_val (pv 1)) (pss_one (ps_set (i := 4) sc_part.nd rfl (Or.inl rfl) (pe_call GN hr (by rfl) gN kN bN .nil (passes_call (takes_of rfl rfl rfl rfl) (fun _ _ _ _ h => h)) (pa_cons (pv 0) pa_nil))))
            (pss_one (ps_raiseX Y.GS rfl (takes_of rfl rfl rfl rfl) hr2 (pe_meth0 (pv 0) Z.kit.cl ML GL hr1 bL .nil pass0))))))
        (pss_one (ps_set (i := 5) sc_part.nd rfl (Or.inl rfl) (pe_and (pe_cmpR op_eq (pv 4) pe_str (nomark _)) (pe_one (pe_meth (pv 0) Z.kit.cl MP GP hr2 bP .nil pass0 (pa_cons pe_str pa_nil))))))))
      (pss_cons (ps_if (pt_cmpR op_gt (pv 3) (pe_glob (by rfl) m0 (v := .int 3) ⟨t0, rfl⟩) (nomark _)) (pss_one (ps_raiseX Y.GT rfl (takes_of rfl rfl rfl rfl) hr2 pe_str)) pss_nil)
      (pss_one (ps_ret (pe_tup (pa_cons (pv 2) (pa_cons (pv 3) (pa_cons (pv 4) pa_nil)))))))))))), ?_⟩
    obtain ⟨dx, l, hR, ho, hL⟩ := id hRd
    have hk := at_tk hkl
    have hlz : ∀ j, (⟨(tk ts j).toArray⟩ : Str).length = (tk ts j).length := fun j => by show (tk ts j).toArray.size = _; simp
    have sN : Str.ofString "n" = ⟨#[110]⟩ := by decide +kernel
    have sS : Str.ofString "*" = ⟨#[42]⟩ := by decide +kernel
    have s0 : Str.ofString "" = (⟨([] : List Nat).toArray⟩ : Str) := by decide +kernel
    refine' (fun rest => ?_ : (∀ (n : Int) (k0 pw0 : Nat) (c0 : List Nat) (g0 : Bool) (H0 : Hp), RdAt C H0 R ts k0 → k0 < ts.length → ButR R H H0 → (g0 = true → c0 = []) → partFin n (if g0 = true then partLoop ts idx ts.length k0 pw0 else .ok (pw0, c0) k0) = partM ts idx k →
      (_ : L2.St → Hp → Prop) [some (.ref R), some (.bl idx), some (.int n), some (.int (pw0 : Int)), some (.str ⟨c0.toArray⟩), some (.bl g0)] H0) → _) ?_
    rotate_left
    · refine ⟨_, rfl, R, dx, _, rfl, hR, rfl, R, ts, k, _, rfl, hRd, hk, _, rfl, by have := hS.sm k; rw [hlz]; exact this, fun H1 s1 => ⟨_, rfl, ?_⟩⟩
      have hRd1 := hRd.same s1
      refine ite2 (fun hN => ?_) (fun hN => ?_)
      · have ne : tk ts k ≠ [] := fun e => by rw [e] at hN; cases hN
        have hk2 := hS.go k hkl ne
        have eM : partM ts idx k = if 150 < (tk ts k).length then .big "numbers" else partFin (numVal (tk ts k)) (if tk ts (k + 1) = [42] then partLoop ts idx ts.length (k + 2) 0 else .ok (0, []) (k + 1)) := by unfold partM; rw [if_pos hN]
        by_cases hb : 150 < (tk ts k).length
        · rw [eM, if_pos hb] at q
          exact ⟨_, rfl, R, dx, _, rfl, s1 _ _ hR, rfl, R, ts, k, rfl, hRd1, hkl, hS, .inr (.inl ⟨hN, hb, OutW.but q (ButR.of s1)⟩)⟩
        · rw [if_neg hb] at eM
          refine ⟨_, rfl, R, dx, _, rfl, s1 _ _ hR, rfl, R, ts, k, rfl, hRd1, hkl, hS, .inr (.inr ⟨hN, by omega, fun H2 h2 b2 => ?_⟩)⟩
          obtain ⟨dx2, l2, hR2, _⟩ := id h2
          have b02 := (ButR.of s1).trans b2
          by_cases hs : tk ts (k + 1) = [42]
          · refine ⟨_, rfl, R, dx2, _, rfl, hR2, rfl, R, ts, k + 1, _, _, rfl, h2, at_tk hk2, .inr ⟨(tkEq sS).mpr hs, fun H3 h3 b3 => ?_⟩⟩
            refine rest (numVal (tk ts k)) (k + 2) 0 [] true H3 h3 (hS.go (k + 1) hk2 (by rw [hs]; simp)) (b02.trans b3) (fun _ => rfl) ?_
            rw [eM, if_pos hs, if_pos rfl]
          · refine ⟨_, rfl, R, dx2, _, rfl, hR2, rfl, R, ts, k + 1, _, _, rfl, h2, at_tk hk2, .inl ⟨fun z => hs ((tkEq sS).mp z), ?_⟩⟩
            refine rest (numVal (tk ts k)) (k + 1) 0 [] false H2 h2 hk2 b02 (fun z => nomatch z) ?_
            rw [eM, if_neg hs, if_neg Bool.false_ne_true]
      · refine rest 1 k 0 [] true H1 hRd1 hkl (ButR.of s1) (fun _ => rfl) ?_
        unfold partM
        rw [if_neg hN, if_pos rfl]
    · intro n k0 pw0 c0 g0 H0 h0 hk0 b0 hc0 eM
      have d0 : decide (V.str ⟨([] : List Nat).toArray⟩ = V.str (Str.ofString "")) = true := by rw [s0]; exact decide_eq_true rfl
      refine ⟨fun f σ H' => ∃ (k1 pw : Nat) (c : List Nat) (g : Bool), σ = [some (.ref R), some (.bl idx), some (.int n), some (.int (pw : Int)), some (.str ⟨c.toArray⟩), some (.bl g)] ∧ RdAt C H' R ts k1 ∧ k1 < ts.length ∧ ButR R H H' ∧ (g = true → c = []) ∧ ts.length ≤ k1 + f ∧
        partFin n (if g = true then partLoop ts idx f k1 pw else .ok (pw, c) k1) = partM ts idx k, ⟨ts.length, k0, pw0, c0, g0, rfl, h0, hk0, b0, hc0, by omega, eM⟩, ?_⟩
      rintro f σ H' ⟨k1, pw, c, g, rfl, h1, hk1, b1, hc, hf, eM⟩
      obtain ⟨dx1, l1, hR1, _⟩ := id h1
      refine ⟨_, rfl, g, rfl, ?_⟩
      cases g with
      | false =>
        refine iteF ?_
        rw [if_neg Bool.false_ne_true] at eM
        rw [← eM] at q
        refine ⟨_, rfl, _, _, rfl, rfl, _, rfl, ?_⟩
        by_cases hp : 3 < pw
        · rw [decide_eq_true (p := (3 : Int) < (pw : Int)) (by omega)]
          refine iteT fun d H2 hd s1 e1 => ?_
          have e2 : partFin n (.ok (pw, c) k1) = .big "degree" := if_pos hp
          rw [e2] at q
          exact q d H2 (b1.trans (ButR.of s1)) e1
        · rw [decide_eq_false (p := (3 : Int) < (pw : Int)) (by omega)]
          refine iteF ?_
          have e2 : partFin n (.ok (pw, c) k1) = .ok (n, pw, c) k1 := if_neg hp
          rw [e2] at q
          exact ⟨_, rfl, _, rfl, _, rfl, lenS (by simp), fun p hpn => q (.ref p) _ (h1.same (Same.new hpn)) hk1 (b1.trans (ButR.of (Same.new hpn))) ⟨p, rfl, upd_same⟩⟩
      | true =>
        obtain rfl : c = [] := hc rfl
        obtain ⟨f, rfl⟩ : ∃ f', f = f' + 1 := ⟨f - 1, by omega⟩
        rw [if_pos rfl] at eM
        refine iteT ⟨fun σ' H2 => ∃ (k1 pw : Nat) (c : List Nat) (g : Bool), σ' = [some (.ref R), some (.bl idx), some (.int n), some (.int (pw : Int)), some (.str ⟨c.toArray⟩), some (.bl g)] ∧ RdAt C H2 R ts k1 ∧ k1 < ts.length ∧ ButR R H H2 ∧ (g = true → c = []) ∧ ts.length ≤ k1 + f ∧
          partFin n (if g = true then partLoop ts idx f k1 pw else .ok (pw, c) k1) = partM ts idx k, fun σ' H2 hN => ⟨f, Nat.lt_succ_self f, hN⟩, ?_⟩
        by_cases hn : tk ts k1 = [110]
        · have hk2 := hS.go k1 hk1 (by rw [hn]; simp)
          have eL : partLoop ts idx (f + 1) k1 pw = if tk ts (k1 + 1) = [42] then partLoop ts idx f (k1 + 2) (pw + 1) else .ok (pw + 1, []) (k1 + 1) := by
            show (if tk ts k1 = [110] then _ else _) = _
            rw [if_pos hn]
          rw [eL] at eM
          refine ⟨_, rfl, R, dx1, _, rfl, hR1, rfl, R, ts, k1, _, _, rfl, h1, at_tk hk1, .inr ⟨(tkEq sN).mpr hn, fun H2 h2 b2 => ⟨true, rfl, iteT ?_⟩⟩⟩
          obtain ⟨dx2, l2, hR2, _⟩ := id h2
          have b02 := b1.trans b2
          refine ⟨_, rfl, _, _, rfl, rfl, _, rfl, rfl, _, rfl, ?_⟩
          rw [d0]
          refine iteT ?_
          by_cases hs : tk ts (k1 + 1) = [42]
          · rw [if_pos hs] at eM
            refine ⟨_, rfl, R, dx2, _, rfl, hR2, rfl, R, ts, k1 + 1, _, _, rfl, h2, at_tk hk2, .inr ⟨(tkEq sS).mpr hs, fun H3 h3 b3 => ?_⟩⟩
            refine ⟨k1 + 2, pw + 1, [], true, ?_, h3, hS.go (k1 + 1) hk2 (by rw [hs]; simp), b02.trans b3, fun _ => rfl, by omega, by rw [if_pos rfl]; exact eM⟩
            rw [← succ_int]
            rfl
          · rw [if_neg hs] at eM
            refine ⟨_, rfl, R, dx2, _, rfl, hR2, rfl, R, ts, k1 + 1, _, _, rfl, h2, at_tk hk2, .inl ⟨fun z => hs ((tkEq sS).mp z), ?_⟩⟩
            refine ⟨k1 + 1, pw + 1, [], false, ?_, h2, hk2, b02, (fun z => nomatch z), by omega, by rw [if_neg Bool.false_ne_true]; exact eM⟩
            rw [← succ_int]
            rfl
        · have eL : partLoop ts idx (f + 1) k1 pw = if idx = true ∧ isNmL (tk ts k1) = true then .ok (pw, tk ts k1) (k1 + 1) else .syn (ps ts k1) := by
            show (if tk ts k1 = [110] then _ else _) = _
            rw [if_neg hn]
          rw [eL] at eM
          refine ⟨_, rfl, R, dx1, _, rfl, hR1, rfl, R, ts, k1, _, _, rfl, h1, at_tk hk1, .inl ⟨fun z => hn ((tkEq sN).mp z), false, rfl, iteF ?_⟩⟩
          refine ⟨_, rfl, idx, rfl, ?_⟩
          cases idx with
          | true =>
            refine iteT ?_
            by_cases hm : isNmL (tk ts k1) = true
            · rw [if_pos ⟨rfl, hm⟩] at eM
              have ne : tk ts k1 ≠ [] := fun e => by rw [e] at hm; exact absurd hm (by decide +kernel)
              have d1 : decide (V.str ⟨(tk ts k1).toArray⟩ = V.str (Str.ofString "")) = false := by
                rw [s0]
                refine decide_eq_false fun z => ne ?_
                have z := V.str.inj z
                injection z with z
                simpa using z
              refine ⟨_, rfl, R, ts, k1, _, rfl, h1, at_tk hk1, by have := hS.sm k1; show (tk ts k1).length ≤ 100000; omega, .inl ⟨hm, fun H2 h2 b2 => ?_⟩⟩
              refine ⟨_, rfl, rfl, _, rfl, ?_⟩
              rw [d1]
              refine iteF ?_
              exact ⟨k1 + 1, pw, tk ts k1, false, rfl, h2, hS.go k1 hk1 ne, b1.trans b2, (fun z => nomatch z), by omega, by rw [if_neg Bool.false_ne_true]; exact eM⟩
            · rw [if_neg (fun z => hm z.2)] at eM
              rw [← eM] at q
              exact ⟨_, rfl, R, ts, k1, _, rfl, h1, at_tk hk1, by have := hS.sm k1; show (tk ts k1).length ≤ 100000; omega, .inr ⟨Bool.eq_false_iff.mpr hm, Out.but q b1⟩⟩
          | false =>
            refine iteF ?_
            rw [if_neg (fun z => nomatch z.1)] at eM
            rw [← eM] at q
            exact ⟨_, rfl, R, dx1, _, rfl, hR1, rfl, R, ts, k1, _, rfl, h1, at_tk hk1, fun d H2 hd s1 e1 => q d H2 (b1.trans (ButR.of s1)) e1⟩
end

end K02

namespace K02
open PySem L2 SZ VR VX StX RT
/-! ### the sizes module -/
/-- the module's names that stand for Python's own -/
structure Bn (mg : Str → Option Value) : Prop where
  len : mg "len" = none
  tuple : mg "tuple" = none
  max : mg "max" = none
  enumerate : mg "enumerate" = none
  reversed : mg "reversed" = none
  isinstance : mg "isinstance" = none
  int : mg "int" = none
  bool : mg "bool" = none
/-- a tuple of iz goes in, the one without the noughts comes out -/
def spTrim (K : PySem.W.Frag) : Sp := fun vs H Q _ => ∃ (a : Addr) (xs : List Int), vs = [.ref a] ∧ SqT K H a (iz xs) ∧ xs.length ≤ 1000 ∧ ∀ (p : Addr) (H' : Hp), Same H H' → SqT K H' p (iz (trim xs)) → Q (.ref p) H'
section
variable {P : Program} {w : World} {K : PySem.W.Frag} {mg : Str → Option Value} {base : Heap}
theorem ok_trimmed {f : Addr} {fd : FuncData} (F : Fun K "_trimmed" "_trimmed" S_trimmed f fd) (B : Bn mg) : FnOk P w K mg base CX0 1 f fd ["parts"] (spTrim K) := by
  refine F.ok sc_trimmed (fun vs H Q E h => ?_) (fun cdv A outer s H vs Q E hr h => ?_)
  · obtain ⟨a, xs, rfl, _⟩ := h; rfl
  · obtain ⟨a, xs, rfl, ha, hl, k⟩ := h
    refine ⟨_, pss_cons (ps_set (i := 1) sc_trimmed.nd rfl (Or.inl rfl) (pe_callB call_len_seq (by rfl) B.len PySem.boot_len (pa_cons (pv 0) pa_nil)))
      (pss_cons (ps_while PassesOwn.never (PW.pt (pw_and (pt_cmpR op_gt (pv 1) pe_int (nomark _)) (pw_and1 (pt_cmpR op_eq (pe_ix ix_tup (pv 0) (pe_op op_sub (pv 1) pe_int) (fun _ _ => rfl)) pe_int (nomark _)))))
        (pss_one (ps_aug (i := 1) sc_trimmed.nd rfl (.inl rfl) pe_int ip_sub)))
      (pss_one (ps_ret (pe_callTy call_tuple_of (by rfl) B.tuple (by decide +kernel) (pa_cons (pe_slice sl_tupA (pv 0) po_none (po_some (pv 1))) pa_nil))))), ?_⟩
    refine ⟨_, rfl, a, iz xs, rfl, .inr ha, ?_⟩
    refine ⟨fun m σ H' => m ≤ xs.length ∧ σ = [some (.ref a), some (.int m)] ∧ H' = H ∧ trim (xs.take m) = trim xs, ⟨xs.length, Nat.le_refl _, by rw [iz_len]; rfl, rfl, by rw [List.take_length]⟩, ?_⟩
    rintro m σ H' ⟨hm, rfl, rfl, ht⟩
    refine ⟨_, rfl, _, _, rfl, rfl, _, rfl, ?_⟩
    have fin : trim xs = xs.take m → tRet (tCB (fun (ys : List V) (H1 : Hp) (Q1 : VK) => ∃ p zs, ys = [V.ref p] ∧ ((SqL K H1 p zs ∧ ∀ l, H1 l = none → Q1 (.ref l) (upd H1 l (.tup zs))) ∨ (SqT K H1 p zs ∧ Q1 (.ref p) H1)))
        (tCons (tSl (rSlA K) (tVar 0) tNoPart (tPart (tVar 1))) tNil)) { nx := fun _ H'' => Q .non H'', rt := Q } [some (.ref a), some (.int m)] H' := fun e => by
      refine ⟨_, rfl, _, rfl, _, rfl, a, iz xs, rfl, ha, fun hw => ?_, fun hw p hp => ?_⟩
      · refine ⟨a, iz xs, rfl, .inr ⟨ha, k a H' (Same.refl _) ?_⟩⟩
        have h2 := hw.2
        rw [HT.sIx_nat, iz_len, Nat.min_eq_left hm] at h2
        rw [e, h2, List.take_length]
        exact ha
      · refine ⟨p, _, rfl, .inr ⟨.of upd_same, k p _ (Same.new hp) ?_⟩⟩
        have ec : cutV (iz xs) none (some (m : Int)) = iz (trim xs) := by
          unfold cutV
          rw [HT.sIx_nat, HT.sIx_none, iz_len, Nat.min_eq_left hm, List.drop_zero, Nat.sub_zero, e]
          simp [iz, List.map_take]
        rw [← ec]
        exact .of upd_same
    refine ite2 (fun h0 => ?_) (fun h0 => ?_)
    · have h1 : (0 : Int) < m := of_decide_eq_true h0
      obtain ⟨j, rfl⟩ : ∃ j, m = j + 1 := ⟨m - 1, by omega⟩
      have h2 : j < xs.length := hm
      have hx : xs[j]? = some xs[j] := List.getElem?_eq_getElem h2
      refine ⟨_, rfl, _, rfl, _, _, rfl, rfl, a, iz xs, _, _, rfl, rfl, ha, at_of (j := j) (by omega) (iz_get hx), rfl, _, rfl, ?_⟩
      have et : xs.take (j + 1) = xs.take j ++ [xs[j]] := by rw [List.take_add_one, hx]; rfl
      refine ite2 (fun hz => ?_) (fun hz => ?_)
      · have ez : xs[j] = 0 := by simpa using hz
        refine ⟨fun σ' H'' => j ≤ xs.length ∧ σ' = [some (.ref a), some (.int (j : Int))] ∧ H'' = H' ∧ trim (xs.take j) = trim xs, fun σ' H'' q => ⟨j, by omega, q⟩, ?_⟩
        refine ⟨_, rfl, _, _, rfl, rfl, by omega, ?_, rfl, ?_⟩
        · show [some (V.ref a), some (V.int (((j + 1 : Nat) : Int) - 1))] = _
          have e2 : ((j + 1 : Nat) : Int) - 1 = (j : Int) := by omega
          rw [e2]
        · rw [← ht, et, ez, trim_app0]
      · have ez : xs[j] ≠ 0 := by simpa using hz
        have e3 : trim xs = xs.take (j + 1) := by rw [← ht, et, trim_app _ ez]
        exact fin e3
    · have h1 : ¬ (0 : Int) < m := by simpa using h0
      have e0 : m = 0 := by omega
      subst e0
      exact fin (by rw [← ht]; rfl)
end

/-- two tuples of ints go in, a new tuple comes out -/
def sp2 (K : PySem.W.Frag) (g : List Int → List Int → List Int) (C : List Int → List Int → Prop) : Sp := fun vs H Q _ => ∃ (a b : Addr) (xs ys : List Int), vs = [.ref a, .ref b] ∧ SqT K H a (iz xs) ∧ SqT K H b (iz ys) ∧ xs.length ≤ 500 ∧ ys.length ≤ 500 ∧ C xs ys ∧
  ∀ (p : Addr) (H' : Hp), Same H H' → H' p = some (.tup (iz (g xs ys))) → Q (.ref p) H'
section
variable {P : Program} {w : World} {K : PySem.W.Frag} {mg : Str → Option Value} {base : Heap}
theorem ok_sum {f : Addr} {fd : FuncData} (F : Fun K "_sum" "_sum" S_sum f fd) (B : Bn mg) : FnOk P w K mg base CX0 1 f fd ["one", "other"] (sp2 K sumL fun _ _ => True) := by
  refine F.ok sc_sum (fun vs H Q E h => ?_) (fun cdv A outer s H vs Q E hr h => ?_)
  · obtain ⟨a, b, xs, ys, rfl, _⟩ := h; rfl
  · obtain ⟨a, b, xs, ys, rfl, ha, hb, hxl, hyl, _, k⟩ := h
    refine ⟨_, pss_cons (ps_set (i := 2) sc_sum.nd rfl (Or.inl rfl) (pe_callB (call_max2 rfl) (by rfl) B.max (by decide +kernel)
          (pa_cons (pe_callB call_len_seq (by rfl) B.len PySem.boot_len (pa_cons (pv 0) pa_nil)) (pa_cons (pe_callB call_len_seq (by rfl) B.len PySem.boot_len (pa_cons (pv 1) pa_nil)) pa_nil))))
      (pss_cons (ps_set (i := 3) sc_sum.nd rfl (Or.inl rfl) (pe_op op_rep (pe_lst (pa_cons pe_int pa_nil)) (pv 2)))
      (pss_cons (ps_for PassesOwn.never rfl (pi_enumT (by rfl) B.enumerate (pa_cons (pv 0) pa_nil)) (pg_tup rfl (pgs_cons (pg_name (i := 4) sc_sum.nd rfl (Or.inl rfl)) (pgs_cons (pg_name (i := 5) sc_sum.nd rfl (Or.inl rfl)) pgs_nil)))
        (pss_one (ps_asg (pv 5) (pg_sub (pv 3) (pv 4) set_list))))
      (pss_cons (ps_for PassesOwn.never rfl (pi_enumT (by rfl) B.enumerate (pa_cons (pv 1) pa_nil)) (pg_tup rfl (pgs_cons (pg_name (i := 4) sc_sum.nd rfl (Or.inl rfl)) (pgs_cons (pg_name (i := 5) sc_sum.nd rfl (Or.inl rfl)) pgs_nil)))
        (pss_one (ps_asg (pe_op op_add (pe_ix ix_list (pv 3) (pv 4) (fun _ _ => rfl)) (pv 5)) (pg_sub (pv 3) (pv 4) set_list))))
      (pss_one (ps_ret (pe_callTy call_tuple_of (by rfl) B.tuple (by decide +kernel) (pa_cons (pv 3) pa_nil))))))), ?_⟩
    refine ⟨_, rfl, a, iz xs, rfl, .inr ha, _, rfl, b, iz ys, rfl, .inr hb, _, _, rfl, ?_⟩
    rw [iz_len, iz_len]
    show tSeq _ _ _ [some (.ref a), some (.ref b), some (.int (if (ys.length : Int) > (xs.length : Int) then (ys.length : Int) else (xs.length : Int))), none, none, none] _
    have em : (if (ys.length : Int) > (xs.length : Int) then (ys.length : Int) else (xs.length : Int)) = ((max xs.length ys.length : Nat) : Int) := by split <;> omega
    rw [em]
    -- parts = [0] * many
    refine ⟨smallL (by show 1 ≤ 10000; decide), fun l0 h0 => ⟨_, rfl, l0, _, _, rfl, rfl, upd_same, by omega, by omega, by rw [Int.toNat_natCast]; exact smallL (by show 1 * _ ≤ 10000; omega), fun l hl => ?_⟩⟩
    rw [Int.toNat_natCast, iz_rep]
    have hl0 : H l = none := (Same.new h0).free hl
    have s0 : Same H (upd (upd H l0 (.lst [V.int 0])) l (.lst (iz (List.replicate (max xs.length ys.length) 0)))) := (Same.new h0).upN hl
    -- for power, part in enumerate(one)
    refine ⟨_, rfl, a, iz xs, rfl, s0.tup ha, for_it (walk_enumT (xs := iz xs)) (fun i σ H' => ∃ zs v4 v5, σ = [some (.ref a), some (.ref b), some (.int ((max xs.length ys.length : Nat) : Int)), some (.ref l), v4, v5] ∧ H' l = some (.lst (iz zs)) ∧ Same H H' ∧ Is zs (max xs.length ys.length) (fun k => (xs.take i).getD k 0))
      ⟨_, none, none, rfl, upd_same, s0, ⟨by simp, fun k => by rw [getD_rep]; simp⟩⟩ (fun i σ H' _ ⟨_, _, _, _, _, s1, _⟩ => s1.tup ha) ?_ ?_⟩
    · rintro i v σ H1 H2 hi ⟨zs, v4, v5, rfl, hz, s1, I⟩ ⟨T, x', y', rfl, hT, rfl, ex, ey⟩
      obtain ⟨x, hx, rfl⟩ := of_iz_get ey
      cases ex
      rw [iz_len] at hi
      refine ⟨T, _, rfl, .of upd_same, rfl, _, _, rfl, _, _, rfl, rfl, ?_⟩
      have hlT : l ≠ T := ne_of_none hz hT
      refine ⟨_, rfl, _, rfl, _, rfl, l, iz zs, _, i, rfl, rfl, by rw [upd_ne hlT]; exact hz, ixN_nat (by rw [iz_len, I.len]; omega), ?_⟩
      rw [iz_set]
      refine ⟨_, _, _, rfl, upd_same, (s1.upN hT).upd0 hl0, I.set (d := x) (by omega) fun k => ?_⟩
      by_cases e : k = i
      · subst e
        rw [if_pos rfl, List.take_add_one, hx]
        simp only [List.getD_eq_getElem?_getD]
        rw [List.getElem?_append_right (by rw [List.length_take]; omega), List.length_take, Nat.min_eq_left (Nat.le_of_lt hi)]
        simp
      · rw [if_neg e]
        simp only [List.getD_eq_getElem?_getD, List.getElem?_take]
        by_cases h1 : k < i
        · rw [if_pos h1, if_pos (by omega)]
        · rw [if_neg h1, if_neg (by omega)]
    · rintro σ H1 ⟨zs, v4, v5, rfl, hz, s1, I⟩
      -- for power, part in enumerate(other)
      refine ⟨_, rfl, b, iz ys, rfl, s1.tup hb, for_it (walk_enumT (xs := iz ys)) (fun i σ H' => ∃ zs v4 v5, σ = [some (.ref a), some (.ref b), some (.int ((max xs.length ys.length : Nat) : Int)), some (.ref l), v4, v5] ∧ H' l = some (.lst (iz zs)) ∧ Same H H' ∧ Is zs (max xs.length ys.length) (fun k => xs.getD k 0 + (ys.take i).getD k 0))
        ⟨zs, v4, v5, rfl, hz, s1, ⟨I.len, fun k => by rw [I.get]; simp [iz_len]⟩⟩ (fun i σ H' _ ⟨_, _, _, _, _, s1, _⟩ => s1.tup hb) ?_ ?_⟩
      · rintro i v σ H1 H2 hi ⟨zs, v4, v5, rfl, hz, s1, I⟩ ⟨T, x', y', rfl, hT, rfl, ex, ey⟩
        obtain ⟨y, hy, rfl⟩ := of_iz_get ey
        cases ex
        rw [iz_len] at hi
        refine ⟨T, _, rfl, .of upd_same, rfl, _, _, rfl, _, _, rfl, rfl, ?_⟩
        have hlT : l ≠ T := ne_of_none hz hT
        have hil : i < zs.length := by rw [I.len]; omega
        have hzi : zs[i]? = some zs[i] := List.getElem?_eq_getElem hil
        refine ⟨_, rfl, _, rfl, l, iz zs, _, _, rfl, rfl, .of (by rw [upd_ne hlT]; exact hz), at_of (j := i) rfl (iz_get hzi), _, rfl, _, _, rfl, rfl, _, rfl, _, rfl, l, iz zs, _, i, rfl, rfl, by rw [upd_ne hlT]; exact hz, ixN_nat (by rw [iz_len]; exact hil), ?_⟩
        rw [iz_set]
        refine ⟨_, _, _, rfl, upd_same, (s1.upN hT).upd0 hl0, I.set (d := zs[i] + y) (by omega) fun k => ?_⟩
        have hzg : zs[i] = xs.getD i 0 + (ys.take i).getD i 0 := by rw [← I.get i, getD_some hzi]
        by_cases e : k = i
        · subst e
          rw [if_pos rfl, hzg]
          have e1 : (ys.take k).getD k 0 = 0 := getD_of_ge (by rw [List.length_take]; omega)
          have e2 : (ys.take (k + 1)).getD k 0 = y := by
            rw [List.take_add_one, hy]
            simp only [List.getD_eq_getElem?_getD]
            rw [List.getElem?_append_right (by rw [List.length_take]; omega), List.length_take, Nat.min_eq_left (Nat.le_of_lt hi)]
            simp
          rw [e1, e2]; omega
        · rw [if_neg e]
          simp only [List.getD_eq_getElem?_getD, List.getElem?_take]
          by_cases h1 : k < i
          · rw [if_pos h1, if_pos (by omega)]
          · rw [if_neg h1, if_neg (by omega)]
      · rintro σ H1 ⟨zs, v4, v5, rfl, hz, s1, I⟩
        have ez : zs = sumL xs ys := I.eq (len_sumL xs ys) fun k => by rw [get_sumL, iz_len, List.take_length]
        subst ez
        refine ⟨_, rfl, l, _, rfl, .inl ⟨.of hz, fun p hp => ?_⟩⟩
        exact k p _ (s1.upN hp) upd_same
end

section
variable {P : Program} {w : World} {K : PySem.W.Frag} {mg : Str → Option Value} {base : Heap}
theorem ok_product {f : Addr} {fd : FuncData} (F : Fun K "_product" "_product" S_product f fd) (B : Bn mg) : FnOk P w K mg base CX0 1 f fd ["one", "other"] (sp2 K mulL fun xs ys => ∀ x ∈ xs, ∀ y ∈ ys, CMulW x y) := by
  refine F.ok sc_product (fun vs H Q E h => ?_) (fun cdv A outer s H vs Q E hr h => ?_)
  · obtain ⟨a, b, xs, ys, rfl, _⟩ := h; rfl
  · obtain ⟨a, b, xs, ys, rfl, ha, hb, hxl, hyl, hC, k⟩ := h
    refine ⟨_, pss_cons (ps_set (i := 2) sc_product.nd rfl (Or.inl rfl) (pe_op op_add (pe_callB call_len_seq (by rfl) B.len PySem.boot_len (pa_cons (pv 0) pa_nil)) (pe_callB call_len_seq (by rfl) B.len PySem.boot_len (pa_cons (pv 1) pa_nil))))
      (pss_cons (ps_set (i := 3) sc_product.nd rfl (Or.inl rfl) (pe_op op_rep (pe_lst (pa_cons pe_int pa_nil)) (pv 2)))
      (pss_cons (ps_for PassesOwn.never rfl (pi_enumT (by rfl) B.enumerate (pa_cons (pv 0) pa_nil)) (pg_tup rfl (pgs_cons (pg_name (i := 4) sc_product.nd rfl (Or.inl rfl)) (pgs_cons (pg_name (i := 5) sc_product.nd rfl (Or.inl rfl)) pgs_nil)))
        (pss_one (ps_for PassesOwn.never rfl (pi_enumT (by rfl) B.enumerate (pa_cons (pv 1) pa_nil)) (pg_tup rfl (pgs_cons (pg_name (i := 6) sc_product.nd rfl (Or.inl rfl)) (pgs_cons (pg_name (i := 7) sc_product.nd rfl (Or.inl rfl)) pgs_nil)))
          (pss_one (ps_asg (pe_op op_add (pe_ix ix_list (pv 3) (pe_op op_add (pv 4) (pv 6)) (fun _ _ => rfl)) (pe_op op_mulW (pv 5) (pv 7))) (pg_sub (pv 3) (pe_op op_add (pv 4) (pv 6)) set_list))))))
      (pss_one (ps_ret (pe_callTy call_tuple_of (by rfl) B.tuple (by decide +kernel) (pa_cons (pv 3) pa_nil)))))), ?_⟩
    refine ⟨_, rfl, a, iz xs, rfl, .inr ha, _, rfl, b, iz ys, rfl, .inr hb, _, _, rfl, rfl, ?_⟩
    rw [iz_len, iz_len]
    have em : (xs.length : Int) + (ys.length : Int) = ((xs.length + ys.length : Nat) : Int) := by omega
    show tSeq _ _ _ [some (.ref a), some (.ref b), some (.int ((xs.length : Int) + (ys.length : Int))), none, none, none, none, none] _
    rw [em]
    refine ⟨smallL (by show 1 ≤ 10000; decide), fun l0 h0 => ⟨_, rfl, l0, _, _, rfl, rfl, upd_same, by omega, by omega, by rw [Int.toNat_natCast]; exact smallL (by show 1 * _ ≤ 10000; omega), fun l hl => ?_⟩⟩
    rw [Int.toNat_natCast, iz_rep]
    have hl0 : H l = none := (Same.new h0).free hl
    have s0 : Same H (upd (upd H l0 (.lst [V.int 0])) l (.lst (iz (List.replicate (xs.length + ys.length) 0)))) := L2.Same.upN (L2.Same.new h0) hl
    refine ⟨_, rfl, a, iz xs, rfl, L2.Same.tup s0 ha, for_it (walk_enumT (xs := iz xs)) (fun i σ H' => ∃ zs v4 v5 v6 v7, σ = [some (.ref a), some (.ref b), some (.int ((xs.length + ys.length : Nat) : Int)), some (.ref l), v4, v5, v6, v7] ∧ H' l = some (.lst (iz zs)) ∧ Same H H' ∧ Is zs (xs.length + ys.length) (cf (xs.take i) ys))
      ⟨_, none, none, none, none, rfl, upd_same, s0, ⟨by simp, fun k => by rw [getD_rep]; rfl⟩⟩ (fun i σ H' _ ⟨_, _, _, _, _, _, _, s1, _⟩ => s1.tup ha) ?_ ?_⟩
    · rintro i v σ H1 H2 hi ⟨zs, v4, v5, v6, v7, rfl, hz, s1, I⟩ ⟨T, x', y', rfl, hT, rfl, ex, ey⟩
      obtain ⟨x, hx, rfl⟩ := of_iz_get ey
      cases ex
      rw [iz_len] at hi
      have hlT : l ≠ T := ne_of_none hz hT
      refine ⟨T, _, rfl, .of upd_same, rfl, _, _, rfl, _, _, rfl, rfl, ?_⟩
      have s2 := s1.upN (o := .tup [.int (i : Nat), .int x]) hT
      refine ⟨_, rfl, b, iz ys, rfl, s2.tup hb, for_it (walk_enumT (xs := iz ys)) (fun j σ H' => ∃ zs v6 v7, σ = [some (.ref a), some (.ref b), some (.int ((xs.length + ys.length : Nat) : Int)), some (.ref l), some (.int (i : Nat)), some (.int x), v6, v7] ∧ H' l = some (.lst (iz zs)) ∧ Same H H' ∧ Is zs (xs.length + ys.length) (fun k => cf (xs.take i) ys k + if i ≤ k ∧ k < i + j then x * ys.getD (k - i) 0 else 0))
        ⟨zs, v6, v7, rfl, by rw [upd_ne hlT]; exact hz, s2, ⟨I.len, fun k => by rw [I.get, if_neg (by omega)]; omega⟩⟩ (fun i σ H' _ ⟨_, _, _, _, _, s1, _⟩ => s1.tup hb) ?_ ?_⟩
      · rintro j v σ H1 H2 hj ⟨zs, v6, v7, rfl, hz, s1, I⟩ ⟨T, x', y', rfl, hT, rfl, ex, ey⟩
        obtain ⟨y, hy, rfl⟩ := of_iz_get ey
        cases ex
        rw [iz_len] at hj
        have hlT : l ≠ T := ne_of_none hz hT
        have hil : i + j < zs.length := by rw [I.len]; omega
        have hzi : zs[i + j]? = some zs[i + j] := List.getElem?_eq_getElem hil
        have hzl : (upd H1 T (.tup [.int (j : Nat), .int y])) l = some (.lst (iz zs)) := by rw [upd_ne hlT]; exact hz
        refine ⟨T, _, rfl, .of upd_same, rfl, _, _, rfl, _, _, rfl, rfl, ?_⟩
        refine ⟨_, rfl, _, rfl, _, rfl, _, _, rfl, rfl, l, iz zs, _, _, rfl, rfl, .of hzl, at_of (j := i + j) (by omega) (iz_get hzi), _, rfl, _, rfl, _, _, rfl, rfl, hC x (List.mem_of_getElem? hx) y (List.mem_of_getElem? hy), _, _, rfl, rfl, _, rfl, _, rfl, _, rfl, _, _, rfl, rfl, l, iz zs, _, i + j, rfl, rfl, hzl, ?_, ?_⟩
        · have e : (i : Int) + (j : Int) = ((i + j : Nat) : Int) := by omega
          rw [e]
          exact ixN_nat (by rw [iz_len]; exact hil)
        rw [iz_set]
        refine ⟨_, _, _, rfl, upd_same, (s1.upN hT).upd0 hl0, I.set (d := zs[i + j] + x * y) (by omega) fun k => ?_⟩
        have hzg : zs[i + j] = cf (xs.take i) ys (i + j) := by
          have := I.get (i + j)
          rw [getD_some hzi, if_neg (by omega)] at this
          omega
        by_cases e : k = i + j
        · subst e
          have e2 : i + j - i = j := by omega
          rw [if_pos rfl, hzg, if_pos (by omega), e2, getD_some hy]
        · rw [if_neg e]
          by_cases h1 : i ≤ k ∧ k < i + j
          · rw [if_pos h1, if_pos (by omega)]
          · rw [if_neg h1, if_neg (by omega)]
      · rintro σ H1 ⟨zs, v6, v7, rfl, hz, s1, I⟩
        refine ⟨zs, _, _, v6, v7, rfl, hz, s1, ⟨I.len, fun k => ?_⟩⟩
        rw [I.get, cf_take hx, iz_len]
        by_cases h1 : i ≤ k ∧ k < i + ys.length
        · rw [if_pos h1, if_pos h1.1]
        · rw [if_neg h1]
          by_cases h2 : i ≤ k
          · rw [if_pos h2, getD_of_ge (by omega)]; simp
          · rw [if_neg h2]
    · rintro σ H1 ⟨zs, v4, v5, v6, v7, rfl, hz, s1, I⟩
      have ez : zs = mulL xs ys := I.eq (len_mulL xs ys) fun k => by rw [get_mulL, iz_len, List.take_length]
      subst ez
      refine ⟨_, rfl, l, _, rfl, .inl ⟨.of hz, fun p hp => ?_⟩⟩
      exact k p _ (s1.upN hp) upd_same
/-- one tuple of ints goes in, a new tuple comes out -/
def sp1 (K : PySem.W.Frag) (g : List Int → List Int) : Sp := fun vs H Q _ => ∃ (a : Addr) (xs : List Int), vs = [.ref a] ∧ SqT K H a (iz xs) ∧ xs.length ≤ 500 ∧
  ∀ (p : Addr) (H' : Hp), Same H H' → H' p = some (.tup (iz (g xs))) → Q (.ref p) H'
theorem ok_negative {f : Addr} {fd : FuncData} (F : Fun K "_negative" "_negative" S_negative f fd) (B : Bn mg) : FnOk P w K mg base CX0 1 f fd ["parts"] (sp1 K negL) := by
  refine F.ok sc_negative (fun vs H Q E h => ?_) (fun cdv A outer s H vs Q E hr h => ?_)
  · obtain ⟨a, xs, rfl, _⟩ := h; rfl
  · obtain ⟨a, xs, rfl, ha, hl, k⟩ := h
    refine ⟨_, pss_one (ps_ret (pe_callTy call_tuple_of (by rfl) B.tuple (by decide +kernel) (pa_cons
      (pe_lc (own := [("part", 1)]) (g := gName 1) (by rfl) sc_negative.nd (pi_tup (pv 0)) (blkOk_by (own := [("part", 1)]) (N := ["parts", "part"]) (sc := defScope S_negative) (by decide +kernel)) (fun _ _ _ _ _ => pg_name (i := 1) sc_negative.nd rfl (Or.inl rfl)) (fun _ _ _ _ _ => pts_nil) (fun _ _ _ _ _ => pe_un un_neg (pv 1))) pa_nil))), ?_⟩
    refine ⟨_, rfl, a, rfl, ⟨_, ha⟩, fun D hD => lc_it (walk_tup (xs := iz xs)) (fun i H' => H' D = some (.lst (iz (negL (xs.take i)))) ∧ Same H H') ⟨upd_same, Same.new hD⟩ (fun i H' _ ⟨_, s1⟩ => s1.tup ha) ?_ ?_⟩
    · rintro i v H1 H2 hi ⟨hd, s1⟩ ⟨rfl, hv⟩
      obtain ⟨x, hx, rfl⟩ := of_iz_get hv
      rw [iz_len] at hi
      refine ⟨rfl, ?_⟩
      refine ⟨_, rfl, _, rfl, _, hd, by rw [iz_len]; show _ < _; simp [negL]; exact Nat.lt_of_le_of_lt (Nat.min_le_right _ _) (small1000 (by omega)), ?_, s1.upd0 hD⟩
      rw [upd_same, List.take_add_one, hx]
      simp [negL, iz]
    · rintro H1 ⟨hd, s1⟩
      rw [iz_len, List.take_length] at hd
      refine ⟨D, _, rfl, .inl ⟨.of hd, fun p hp => ?_⟩⟩
      exact k p _ (s1.upN hp) upd_same
end

/-- a Size stands at p -/
def SzAt (K : PySem.W.Frag) (C : Addr) (H : Hp) (p : Addr) (xs : List Int) : Prop := ∃ dx t, H p = some (.ins C dx [("_parts", .ref t)]) ∧ SqT K H t (iz xs)
theorem SzAt.same {K : PySem.W.Frag} {C : Addr} {H H' : Hp} {p : Addr} {xs : List Int} (h : SzAt K C H p xs) (e : Same H H') : SzAt K C H' p xs := by
  obtain ⟨dx, t, h1, h2⟩ := h
  exact ⟨dx, t, e _ _ h1, e.tup h2⟩
/-- what may stand on the right: a Size, an int -/
def Opd (K : PySem.W.Frag) (C : Addr) (H : Hp) (y : V) (ys : List Int) : Prop := (∃ b, y = .ref b ∧ SzAt K C H b ys) ∨ ∃ i, y = .int i ∧ ys = [i]
theorem Opd.same {K : PySem.W.Frag} {C : Addr} {H H' : Hp} {y : V} {ys : List Int} (h : Opd K C H y ys) (e : Same H H') : Opd K C H' y ys := by
  rcases h with ⟨b, h1, h2⟩ | h
  · exact .inl ⟨b, h1, h2.same e⟩
  · exact .inr h
/-- what the class's own objects say -/
structure SzC (K : PySem.W.Frag) (mg : Str → Option Value) (C fT fS fP fN fI fO fA : Addr) : Prop where
  kit : InsKit K C
  nP : NoAttr K C "_parts"
  isC : PySem.W.isClsIn K C = true
  tyC : PySem.W.typeIn K (.ref C) = some (.type "type")
  intC : PySem.W.subIn K (.type "int") (.ref C) = some false
  mgC : mg "Size" = some (.ref C)
  gT : mg "_trimmed" = some (.ref fT)
  gS : mg "_sum" = some (.ref fS)
  gP : mg "_product" = some (.ref fP)
  gN : mg "_negative" = some (.ref fN)
  gI : mg "is_integer" = some (.ref fI)
  gO : mg "_is_operand" = some (.ref fO)
  gA : mg "_parts_of" = some (.ref fA)
/-- __init__ -/
def spInit (K : PySem.W.Frag) (C : Addr) : Sp := fun vs H Q _ => ∃ (p dx a : Addr) (xs : List Int), vs = [.ref p, .ref a] ∧ H p = some (.ins C dx []) ∧ SqT K H a (iz xs) ∧ xs.length ≤ 1000 ∧
  ∀ H' : Hp, (∀ b o, H b = some o → b ≠ p → H' b = some o) → SzAt K C H' p (trim xs) → Q .non H'
section
variable {P : Program} {w : World} {K : PySem.W.Frag} {mg : Str → Option Value} {base : Heap} {C fT fS fP fN fI fO fA : Addr} {fdT fdS fdP fdN fdI fdO fdA : FuncData}
theorem ok_init {f : Addr} {fd : FuncData} {dvs : List V} (F : FunD K "__init__" "Size.__init__" (defArgs S_Size___init__) (defBody S_Size___init__) (defScope S_Size___init__) dvs [] f fd) (Z : SzC K mg C fT fS fP fN fI fO fA) (FT : Fun K "_trimmed" "_trimmed" S_trimmed fT fdT) (bT : Binds K fdT ["parts"] []) (B : Bn mg) :
    FnOk P w K mg base CX0 2 f fd ["self", "parts"] (spInit K C) := by
  have GT : FnOk P w K mg base CX0 1 fT fdT ["parts"] (spTrim K) := ok_trimmed FT B
  refine F.ok sc_Size___init__ (fun vs H Q E h => ?_) (fun cdv A outer s H vs Q E hr h => ?_)
  · obtain ⟨p, dx, a, xs, rfl, _⟩ := h; rfl
  · obtain ⟨p, dx, a, xs, rfl, hp, ha, hl, k⟩ := h
    refine ⟨_, PSs.nox (pss_one (ps_fld (pv 0) (pe_call GT hr (by rfl) Z.gT FT.kp bT .nil pass0 (pa_cons (pv 1) pa_nil)) rfl)), ?_⟩
    refine ⟨_, rfl, a, xs, rfl, ha, hl, fun t H1 s1 ht => ?_⟩
    have hp1 := s1 _ _ hp
    refine ⟨_, rfl, p, C, dx, [], rfl, hp1, Z.kit.cl, Z.nP, (by show 0 < 1000; decide), ?_⟩
    refine k _ (fun b o hb hne => by rw [upd_ne hne]; exact s1 _ _ hb) ⟨dx, t, upd_same, ?_⟩
    exact SqT.updIns ht hp1
end

/-! ### the class Size -/
def spIsInt : Sp := fun vs H Q _ => ∃ i, vs = [.int i] ∧ Q (.bl true) H
def spIsOp (K : PySem.W.Frag) (C : Addr) : Sp := fun vs H Q _ => ∃ y ys, vs = [y] ∧ Opd K C H y ys ∧ Q (.bl true) H
def spPartsOf (K : PySem.W.Frag) (C : Addr) : Sp := fun vs H Q _ => ∃ y ys, vs = [y] ∧ Opd K C H y ys ∧ ∀ t H', Same H H' → SqT K H' t (iz ys) → Q (.ref t) H'
def spGet (K : PySem.W.Frag) (C : Addr) : Sp := fun vs H Q _ => ∃ a xs, vs = [.ref a] ∧ SzAt K C H a xs ∧ ∀ t, SqT K H t (iz xs) → Q (.ref t) H
def spDeg (K : PySem.W.Frag) (C : Addr) : Sp := fun vs H Q _ => ∃ a xs, vs = [.ref a] ∧ SzAt K C H a xs ∧ Q (.int ((xs.length - 1 : Nat) : Int)) H
def spBin (K : PySem.W.Frag) (C : Addr) (g : List Int → List Int → List Int) (Cn : List Int → List Int → Prop) : Sp := fun vs H Q _ => ∃ a y xs ys, vs = [.ref a, y] ∧ SzAt K C H a xs ∧ Opd K C H y ys ∧ xs.length ≤ 400 ∧ ys.length ≤ 400 ∧ Cn xs ys ∧
  ∀ p H', Same H H' → SzAt K C H' p (trim (g xs ys)) → Q (.ref p) H'
def spNeg (K : PySem.W.Frag) (C : Addr) : Sp := fun vs H Q _ => ∃ a xs, vs = [.ref a] ∧ SzAt K C H a xs ∧ xs.length ≤ 400 ∧ ∀ p H', Same H H' → SzAt K C H' p (trim (negL xs)) → Q (.ref p) H'
/-- ==: a Size, or a value of another kind -/
def spEqv (K : PySem.W.Frag) (C : Addr) : Sp := fun vs H Q _ => ∃ a y xs, vs = [.ref a, y] ∧ SzAt K C H a xs ∧
  ((∃ b ys, y = .ref b ∧ SzAt K C H b ys ∧ Q (.bl (decide (xs = ys))) H) ∨ (∃ t, TyX K H y t ∧ (t == .ref C) = false ∧ PySem.W.subIn K t (.ref C) = some false ∧ Q (.bl false) H))
abbrev CnAny : List Int → List Int → Prop := fun _ _ => True
abbrev CnMul : List Int → List Int → Prop := fun xs ys => ∀ x ∈ xs, ∀ y ∈ ys, CMulW x y
section
variable {P : Program} {w : World} {K : PySem.W.Frag} {mg : Str → Option Value} {base : Heap} {C fT fS fP fN fI fO fA : Addr} {fdT fdS fdP fdN fdI fdO fdA : FuncData}
theorem ok_is_integer {f : Addr} {fd : FuncData} (F : Fun K "is_integer" "is_integer" S_is_integer f fd) (B : Bn mg) : FnOk P w K mg base CX0 1 f fd ["value"] spIsInt := by
  refine F.ok sc_is_integer (fun vs H Q E h => ?_) (fun cdv A outer s H vs Q E hr h => ?_)
  · obtain ⟨i, rfl, _⟩ := h; rfl
  · obtain ⟨i, rfl, k⟩ := h
    refine ⟨_, pss_one (ps_ret (pe_and (pe_callB call_isi (by rfl) B.isinstance (by decide +kernel) (pa_cons (pv 0) (pa_cons (pe_bltn (by rfl) B.int (u := .type "int") (v := .ty "int") (by decide +kernel) rfl) pa_nil)))
      (pe_one (pe_not (pe_callB call_isi (by rfl) B.isinstance (by decide +kernel) (pa_cons (pv 0) (pa_cons (pe_bltn (by rfl) B.bool (u := .type "bool") (v := .ty "bool") (by decide +kernel) rfl) pa_nil))))))), ?_⟩
    refine ⟨_, rfl, _, _, _, _, true, rfl, .ty _, .base (.int i), kit_ty (by decide +kernel), true, rfl, ?_⟩
    refine iteT ?_
    exact ⟨_, rfl, _, _, _, _, false, rfl, .ty _, .base (.int i), kit_ty (by decide +kernel), false, rfl, k⟩
theorem ok_is_operand {f : Addr} {fd : FuncData} (F : Fun K "_is_operand" "_is_operand" S_is_operand f fd) (Z : SzC K mg C fT fS fP fN fI fO fA) (FI : Fun K "is_integer" "is_integer" S_is_integer fI fdI) (bI : Binds K fdI ["value"] []) (B : Bn mg) :
    FnOk P w K mg base CX0 2 f fd ["value"] (spIsOp K C) := by
  have GI : FnOk P w K mg base CX0 1 fI fdI ["value"] spIsInt := ok_is_integer FI B
  refine F.ok sc_is_operand (fun vs H Q E h => ?_) (fun cdv A outer s H vs Q E hr h => ?_)
  · obtain ⟨y, ys, rfl, _⟩ := h; rfl
  · obtain ⟨y, ys, rfl, hy, k⟩ := h
    refine ⟨_, pss_one (ps_ret (pe_or (pe_callB call_isi (by rfl) B.isinstance (by decide +kernel) (pa_cons (pv 0) (pa_cons (pe_glob (by rfl) Z.mgC (v := .ref C) rfl) pa_nil)))
      (pe_one (pe_call GI hr (by rfl) Z.gI FI.kp bI .nil pass0 (pa_cons (pv 0) pa_nil))))), ?_⟩
    rcases hy with ⟨b, rfl, dx, t, hb, ht⟩ | ⟨i, rfl, rfl⟩
    · refine ⟨_, rfl, _, _, _, _, true, rfl, .own C, Z.kit.ty hb, kit_self (by simp), true, rfl, ?_⟩
      exact iteT k
    · refine ⟨_, rfl, _, _, _, _, false, rfl, .own C, .base (.int i), kit_cls_ref Z.isC Z.tyC (by rfl) Z.intC, false, rfl, ?_⟩
      refine iteF ?_
      exact ⟨_, rfl, i, rfl, k⟩
theorem ok_coefficients {f : Addr} {fd : FuncData} (F : Fun K "coefficients" "Size.coefficients" S_Size_coefficients f fd) (Z : SzC K mg C fT fS fP fN fI fO fA) : FnOk P w K mg base CX0 1 f fd ["self"] (spGet K C) := by
  refine F.ok sc_Size_coefficients (fun vs H Q E h => ?_) (fun cdv A outer s H vs Q E hr h => ?_)
  · obtain ⟨a, xs, rfl, _⟩ := h; rfl
  · obtain ⟨a, xs, rfl, ⟨dx, t, ha, ht⟩, k⟩ := h
    refine ⟨_, pss_one (ps_ret (pe_fld (pv 0) rfl)), ?_⟩
    exact ⟨_, rfl, a, C, dx, _, _, rfl, ha, Z.kit.cl, Z.nP, rfl, k t ht⟩
theorem ok_degree {f : Addr} {fd : FuncData} (F : Fun K "degree" "Size.degree" S_Size_degree f fd) (Z : SzC K mg C fT fS fP fN fI fO fA) (B : Bn mg) : FnOk P w K mg base CX0 1 f fd ["self"] (spDeg K C) := by
  refine F.ok sc_Size_degree (fun vs H Q E h => ?_) (fun cdv A outer s H vs Q E hr h => ?_)
  · obtain ⟨a, xs, rfl, _⟩ := h; rfl
  · obtain ⟨a, xs, rfl, ⟨dx, t, ha, ht⟩, k⟩ := h
    refine ⟨_, pss_one (ps_ret (pe_callB (call_max2 rfl) (by rfl) B.max (by decide +kernel) (pa_cons pe_int (pa_cons (pe_op op_sub (pe_callB call_len_seq (by rfl) B.len PySem.boot_len (pa_cons (pe_fld (pv 0) rfl) pa_nil)) pe_int) pa_nil)))), ?_⟩
    refine ⟨_, rfl, a, C, dx, _, _, rfl, ha, Z.kit.cl, Z.nP, rfl, t, iz xs, rfl, .inr ht, _, _, rfl, rfl, _, _, rfl, ?_⟩
    rw [iz_len]
    have e : (if (xs.length : Int) - 1 > 0 then (xs.length : Int) - 1 else 0) = ((xs.length - 1 : Nat) : Int) := by split <;> omega
    rw [e]
    exact k
theorem ok_parts_of {f : Addr} {fd : FuncData} (F : Fun K "_parts_of" "_parts_of" S_parts_of f fd) (Z : SzC K mg C fT fS fP fN fI fO fA) {p g : Addr} {fdG : FuncData} (hp : PropOf K C "coefficients" p g) (FG : Fun K "coefficients" "Size.coefficients" S_Size_coefficients g fdG) (bG : Binds K fdG ["self"] []) (B : Bn mg) :
    FnOk P w K mg base CX0 3 f fd ["operand"] (spPartsOf K C) := by
  have GG : FnOk P w K mg base CX0 1 g fdG ["self"] (spGet K C) := ok_coefficients FG Z
  refine F.ok sc_parts_of (fun vs H Q E h => ?_) (fun cdv A outer s H vs Q E hr h => ?_)
  · obtain ⟨y, ys, rfl, _⟩ := h; rfl
  · obtain ⟨y, ys, rfl, hy, k⟩ := h
    refine ⟨_, pss_cons (ps_if (pt_val (pe_callB call_isi (by rfl) B.isinstance (by decide +kernel) (pa_cons (pv 0) (pa_cons (pe_glob (by rfl) Z.mgC (v := .ref C) rfl) pa_nil))))
        (pss_one (ps_ret (pe_prop (pv 0) Z.kit.cl hp GG hr bG .nil pass0 rfl))) pss_nil)
      (pss_one (ps_ret (pe_tup (pa_cons (pv 0) pa_nil)))), ?_⟩
    rcases hy with ⟨b, rfl, hz⟩ | ⟨i, rfl, rfl⟩
    · obtain ⟨dx, t, hb, ht⟩ := id hz
      refine ⟨_, rfl, _, _, _, _, true, rfl, .own C, Z.kit.ty hb, kit_self (by simp), true, rfl, ?_⟩
      refine iteT ?_
      exact ⟨_, rfl, b, dx, _, rfl, hb, b, ys, rfl, hz, fun t ht => k t H (Same.refl _) ht⟩
    · refine ⟨_, rfl, _, _, _, _, false, rfl, .own C, .base (.int i), kit_cls_ref Z.isC Z.tyC (by rfl) Z.intC, false, rfl, ?_⟩
      refine iteF ?_
      exact ⟨_, rfl, by show 1 ≤ sizeLine; decide, fun p hp => k p _ (Same.new hp) (.of upd_same)⟩
theorem ok_eq {f : Addr} {fd : FuncData} (F : Fun K "__eq__" "Size.__eq__" S_Size___eq__ f fd) (Z : SzC K mg C fT fS fP fN fI fO fA) (B : Bn mg) : FnOk P w K mg base CX0 1 f fd ["self", "other"] (spEqv K C) := by
  refine F.ok sc_Size___eq__ (fun vs H Q E h => ?_) (fun cdv A outer s H vs Q E hr h => ?_)
  · obtain ⟨a, y, xs, rfl, _⟩ := h; rfl
  · obtain ⟨a, y, xs, rfl, ⟨dx, t, ha, ht⟩, k⟩ := h
    refine ⟨_, pss_one (ps_ret (pe_and (pe_callB call_isi (by rfl) B.isinstance (by decide +kernel) (pa_cons (pv 1) (pa_cons (pe_glob (by rfl) Z.mgC (v := .ref C) rfl) pa_nil)))
      (pe_one (pe_cmpR (op_eqD hr.units) (pe_fld (pv 0) rfl) (pe_fld (pv 1) rfl) (nomark _))))), ?_⟩
    rcases k with ⟨b, ys, rfl, ⟨dy, u, hb, hu⟩, k⟩ | ⟨ty, hty, hne, hsub, k⟩
    · refine ⟨_, rfl, _, _, _, _, true, rfl, .own C, Z.kit.ty hb, kit_self (by simp), true, rfl, ?_⟩
      refine iteT ?_
      refine ⟨_, rfl, a, C, dx, _, _, rfl, ha, Z.kit.cl, Z.nP, rfl, _, rfl, b, C, dy, _, _, rfl, hb, Z.kit.cl, Z.nP, rfl, dI xs, dI ys, dp_ints ht, dp_ints hu, shaped_ints xs, shaped_ints ys, ?_⟩
      rw [eqv_ints]
      exact k
    · refine ⟨_, rfl, _, _, _, _, false, rfl, .own C, hty, kit_cls_ref Z.isC Z.tyC hne hsub, false, rfl, ?_⟩
      exact iteF k
end
/-- the class with its defs, as the top has made it -/
structure SzDefs (K : PySem.W.Frag) (mg : Str → Option Value) (C fT fS fP fN fI fO fA fM : Addr) (fdT fdS fdP fdN fdI fdO fdA fdM fdG : FuncData) (pc g : Addr) (dvs : List V) (ds : List Value) : Prop where
  Z : SzC K mg C fT fS fP fN fI fO fA
  B : Bn mg
  T : Fun K "_trimmed" "_trimmed" S_trimmed fT fdT
  bT : Binds K fdT ["parts"] []
  S : Fun K "_sum" "_sum" S_sum fS fdS
  bS : Binds K fdS ["one", "other"] []
  P : Fun K "_product" "_product" S_product fP fdP
  bP : Binds K fdP ["one", "other"] []
  N : Fun K "_negative" "_negative" S_negative fN fdN
  bN : Binds K fdN ["parts"] []
  I : Fun K "is_integer" "is_integer" S_is_integer fI fdI
  bI : Binds K fdI ["value"] []
  O : Fun K "_is_operand" "_is_operand" S_is_operand fO fdO
  bO : Binds K fdO ["value"] []
  A : Fun K "_parts_of" "_parts_of" S_parts_of fA fdA
  bA : Binds K fdA ["operand"] []
  M : Mk K C fM
  FM : FunD K "__init__" "Size.__init__" (defArgs S_Size___init__) (defBody S_Size___init__) (defScope S_Size___init__) dvs [] fM fdM
  bM : Binds K fdM ["self", "parts"] []
  bM0 : Binds K fdM ["self", "parts"] ds
  hd : Vals dvs ds
  dv : ∃ t0, dvs = [.ref t0] ∧ ∀ H, SqT K H t0 []
  pc : PropOf K C "coefficients" pc g
  G : Fun K "coefficients" "Size.coefficients" S_Size_coefficients g fdG
  bG : Binds K fdG ["self"] []
section
variable {P : Program} {w : World} {K : PySem.W.Frag} {mg : Str → Option Value} {base : Heap} {C fT fS fP fN fI fO fA fM : Addr} {fdT fdS fdP fdN fdI fdO fdA fdM fdG : FuncData} {pc g : Addr} {dvs : List V} {ds : List Value}
theorem SzDefs.okI (D : SzDefs K mg C fT fS fP fN fI fO fA fM fdT fdS fdP fdN fdI fdO fdA fdM fdG pc g dvs ds) : FnOk P w K mg base CX0 2 fM fdM ["self", "parts"] (spInit K C) := ok_init D.FM D.Z D.T D.bT D.B
theorem SzDefs.okA (D : SzDefs K mg C fT fS fP fN fI fO fA fM fdT fdS fdP fdN fdI fdO fdA fdM fdG pc g dvs ds) : FnOk P w K mg base CX0 3 fA fdA ["operand"] (spPartsOf K C) := ok_parts_of D.A D.Z D.pc D.G D.bG D.B
theorem SzDefs.okO (D : SzDefs K mg C fT fS fP fN fI fO fA fM fdT fdS fdP fdN fdI fdO fdA fdM fdG pc g dvs ds) : FnOk P w K mg base CX0 2 fO fdO ["value"] (spIsOp K C) := ok_is_operand D.O D.Z D.I D.bI D.B
/-- a new Size, behind its __init__ -/
theorem made {H H1 H2 : Hp} {C x dx a : Addr} {xs : List Int} {K : PySem.W.Frag} (nx : H x = none) (nd : H dx = none) (ne : dx ≠ x) (k : ∀ b o, (upd (upd H dx (.own x)) x (.ins C dx [])) b = some o → b ≠ x → H2 b = some o) : Same H H2 := Same.made nx nd k
theorem upd2_tup {K : PySem.W.Frag} {H : Hp} {x dx a C : Addr} {xs : List V} (h : SqT K H a xs) (nx : H x = none) (nd : H dx = none) (ne : dx ≠ x) : SqT K (upd (upd H dx (.own x)) x (.ins C dx [])) a xs :=
  ((Same.new nd).upN (by rw [upd_ne ne.symm]; exact nx)).tup h
/-- + and -, by the sum of the parts -/
theorem ok_add {f : Addr} {fd : FuncData} (F : Fun K "__add__" "Size.__add__" S_Size___add__ f fd) (D : SzDefs K mg C fT fS fP fN fI fO fA fM fdT fdS fdP fdN fdI fdO fdA fdM fdG pc g dvs ds) : FnOk P w K mg base CX0 4 f fd ["self", "other"] (spBin K C sumL CnAny) := by
  have GS : FnOk P w K mg base CX0 1 fS fdS ["one", "other"] (sp2 K sumL fun _ _ => True) := ok_sum D.S D.B
  refine F.ok sc_Size___add__ (fun vs H Q E h => ?_) (fun cdv A outer s H vs Q E hr h => ?_)
  · obtain ⟨a, y, xs, ys, rfl, _⟩ := h; rfl
  · obtain ⟨a, y, xs, ys, rfl, hz, hy, hxl, hyl, _, k⟩ := h
    obtain ⟨dx, t, ha, ht⟩ := id hz
    refine ⟨_, pss_cons (ps_if (pt_not (pt_val (pe_call D.okO (hr.mono (by decide)) (by rfl) D.Z.gO D.O.kp D.bO .nil pass0 (pa_cons (pv 1) pa_nil)))) pss_never pss_nil)
      (pss_one (ps_ret (pe_make D.M D.okI hr (by rfl) D.Z.mgC D.bM .nil pass0 (pa_cons (pe_call GS (hr.mono (by decide)) (by rfl) D.Z.gS D.S.kp D.bS .nil pass0
        (pa_cons (pe_fld (pv 0) rfl) (pa_cons (pe_call D.okA hr (by rfl) D.Z.gA D.A.kp D.bA .nil pass0 (pa_cons (pv 1) pa_nil)) pa_nil))) pa_nil)))), ?_⟩
    refine ⟨_, rfl, y, ys, rfl, hy, true, rfl, ?_⟩
    refine iteF ?_
    refine ⟨_, rfl, a, C, dx, _, _, rfl, ha, D.Z.kit.cl, D.Z.nP, rfl, _, rfl, y, ys, rfl, hy, fun u H1 s1 hu => ?_⟩
    refine ⟨t, u, xs, ys, rfl, s1.tup ht, hu, by omega, by omega, trivial, fun p H2 s2 hp => ?_⟩
    intro x dx' nx nd ne
    refine ⟨x, dx', p, sumL xs ys, rfl, upd_same, upd2_tup (.of hp) nx nd ne, by rw [len_sumL]; omega, fun H3 s3 h3 => ⟨rfl, ?_⟩⟩
    exact k x H3 ((s1.trans s2).trans (Same.made nx nd s3)) h3
end

section
variable {P : Program} {w : World} {K : PySem.W.Frag} {mg : Str → Option Value} {base : Heap} {C fT fS fP fN fI fO fA fM : Addr} {fdT fdS fdP fdN fdI fdO fdA fdM fdG : FuncData} {pc g : Addr} {dvs : List V} {ds : List Value}
theorem ok_sub {f : Addr} {fd : FuncData} (F : Fun K "__sub__" "Size.__sub__" S_Size___sub__ f fd) (D : SzDefs K mg C fT fS fP fN fI fO fA fM fdT fdS fdP fdN fdI fdO fdA fdM fdG pc g dvs ds) : FnOk P w K mg base CX0 4 f fd ["self", "other"] (spBin K C (fun xs ys => sumL xs (negL ys)) CnAny) := by
  have GS : FnOk P w K mg base CX0 1 fS fdS ["one", "other"] (sp2 K sumL fun _ _ => True) := ok_sum D.S D.B
  have GN : FnOk P w K mg base CX0 1 fN fdN ["parts"] (sp1 K negL) := ok_negative D.N D.B
  refine F.ok sc_Size___sub__ (fun vs H Q E h => ?_) (fun cdv A outer s H vs Q E hr h => ?_)
  · obtain ⟨a, y, xs, ys, rfl, _⟩ := h; rfl
  · obtain ⟨a, y, xs, ys, rfl, hz, hy, hxl, hyl, _, k⟩ := h
    obtain ⟨dx, t, ha, ht⟩ := id hz
    refine ⟨_, pss_cons (ps_if (pt_not (pt_val (pe_call D.okO (hr.mono (by decide)) (by rfl) D.Z.gO D.O.kp D.bO .nil pass0 (pa_cons (pv 1) pa_nil)))) pss_never pss_nil)
      (pss_one (ps_ret (pe_make D.M D.okI hr (by rfl) D.Z.mgC D.bM .nil pass0 (pa_cons (pe_call GS (hr.mono (by decide)) (by rfl) D.Z.gS D.S.kp D.bS .nil pass0
        (pa_cons (pe_fld (pv 0) rfl) (pa_cons (pe_call GN (hr.mono (by decide)) (by rfl) D.Z.gN D.N.kp D.bN .nil pass0 (pa_cons (pe_call D.okA hr (by rfl) D.Z.gA D.A.kp D.bA .nil pass0 (pa_cons (pv 1) pa_nil)) pa_nil)) pa_nil))) pa_nil)))), ?_⟩
    refine ⟨_, rfl, y, ys, rfl, hy, true, rfl, ?_⟩
    refine iteF ?_
    refine ⟨_, rfl, a, C, dx, _, _, rfl, ha, D.Z.kit.cl, D.Z.nP, rfl, _, rfl, y, ys, rfl, hy, fun u0 H0 s0 hu0 => ?_⟩
    refine ⟨u0, ys, rfl, hu0, by omega, fun u H1 s1' hu => ?_⟩
    have s1 := s0.trans s1'
    refine ⟨t, u, xs, negL ys, rfl, s1.tup ht, .of hu, by omega, by simp [negL]; omega, trivial, fun p H2 s2 hp => ?_⟩
    intro x dx' nx nd ne
    refine ⟨x, dx', p, sumL xs (negL ys), rfl, upd_same, upd2_tup (.of hp) nx nd ne, by rw [len_sumL]; simp [negL]; omega, fun H3 s3 h3 => ⟨rfl, ?_⟩⟩
    exact k x H3 ((s1.trans s2).trans (Same.made nx nd s3)) h3
theorem ok_mul {f : Addr} {fd : FuncData} (F : Fun K "__mul__" "Size.__mul__" S_Size___mul__ f fd) (D : SzDefs K mg C fT fS fP fN fI fO fA fM fdT fdS fdP fdN fdI fdO fdA fdM fdG pc g dvs ds) : FnOk P w K mg base CX0 4 f fd ["self", "other"] (spBin K C mulL CnMul) := by
  have GP : FnOk P w K mg base CX0 1 fP fdP ["one", "other"] (sp2 K mulL CnMul) := ok_product D.P D.B
  refine F.ok sc_Size___mul__ (fun vs H Q E h => ?_) (fun cdv A outer s H vs Q E hr h => ?_)
  · obtain ⟨a, y, xs, ys, rfl, _⟩ := h; rfl
  · obtain ⟨a, y, xs, ys, rfl, hz, hy, hxl, hyl, hC, k⟩ := h
    obtain ⟨dx, t, ha, ht⟩ := id hz
    refine ⟨_, pss_cons (ps_if (pt_not (pt_val (pe_call D.okO (hr.mono (by decide)) (by rfl) D.Z.gO D.O.kp D.bO .nil pass0 (pa_cons (pv 1) pa_nil)))) pss_never pss_nil)
      (pss_one (ps_ret (pe_make D.M D.okI hr (by rfl) D.Z.mgC D.bM .nil pass0 (pa_cons (pe_call GP (hr.mono (by decide)) (by rfl) D.Z.gP D.P.kp D.bP .nil pass0
        (pa_cons (pe_fld (pv 0) rfl) (pa_cons (pe_call D.okA hr (by rfl) D.Z.gA D.A.kp D.bA .nil pass0 (pa_cons (pv 1) pa_nil)) pa_nil))) pa_nil)))), ?_⟩
    refine ⟨_, rfl, y, ys, rfl, hy, true, rfl, ?_⟩
    refine iteF ?_
    refine ⟨_, rfl, a, C, dx, _, _, rfl, ha, D.Z.kit.cl, D.Z.nP, rfl, _, rfl, y, ys, rfl, hy, fun u H1 s1 hu => ?_⟩
    refine ⟨t, u, xs, ys, rfl, s1.tup ht, hu, by omega, by omega, hC, fun p H2 s2 hp => ?_⟩
    intro x dx' nx nd ne
    refine ⟨x, dx', p, mulL xs ys, rfl, upd_same, upd2_tup (.of hp) nx nd ne, by rw [len_mulL]; omega, fun H3 s3 h3 => ⟨rfl, ?_⟩⟩
    exact k x H3 ((s1.trans s2).trans (Same.made nx nd s3)) h3
theorem ok_neg {f : Addr} {fd : FuncData} (F : Fun K "__neg__" "Size.__neg__" S_Size___neg__ f fd) (D : SzDefs K mg C fT fS fP fN fI fO fA fM fdT fdS fdP fdN fdI fdO fdA fdM fdG pc g dvs ds) : FnOk P w K mg base CX0 4 f fd ["self"] (spNeg K C) := by
  have GN : FnOk P w K mg base CX0 1 fN fdN ["parts"] (sp1 K negL) := ok_negative D.N D.B
  refine F.ok sc_Size___neg__ (fun vs H Q E h => ?_) (fun cdv A outer s H vs Q E hr h => ?_)
  · obtain ⟨a, xs, rfl, _⟩ := h; rfl
  · obtain ⟨a, xs, rfl, hz, hxl, k⟩ := h
    obtain ⟨dx, t, ha, ht⟩ := id hz
    refine ⟨_, pss_one (ps_ret (pe_make D.M D.okI hr (by rfl) D.Z.mgC D.bM .nil pass0 (pa_cons (pe_call GN (hr.mono (by decide)) (by rfl) D.Z.gN D.N.kp D.bN .nil pass0 (pa_cons (pe_fld (pv 0) rfl) pa_nil)) pa_nil))), ?_⟩
    refine ⟨_, rfl, a, C, dx, _, _, rfl, ha, D.Z.kit.cl, D.Z.nP, rfl, t, xs, rfl, ht, by omega, fun p H2 s2 hp => ?_⟩
    intro x dx' nx nd ne
    refine ⟨x, dx', p, negL xs, rfl, upd_same, upd2_tup (.of hp) nx nd ne, by simp [negL]; omega, fun H3 s3 h3 => ⟨rfl, ?_⟩⟩
    exact k x H3 (s2.trans (Same.made nx nd s3)) h3
end
/-- what of the own operators the class says -/
structure SzOps (K : PySem.W.Frag) (C fadd fsub fmul fneg fcall feq : Addr) (da dsu dm dn dc de : FuncData) : Prop where
  add : BinOwn K C "add" fadd
  sub : BinOwn K C "sub" fsub
  mul : BinOwn K C "mul" fmul
  Fadd : Fun K "__add__" "Size.__add__" S_Size___add__ fadd da
  Fsub : Fun K "__sub__" "Size.__sub__" S_Size___sub__ fsub dsu
  Fmul : Fun K "__mul__" "Size.__mul__" S_Size___mul__ fmul dm
  Fneg : Fun K "__neg__" "Size.__neg__" S_Size___neg__ fneg dn
  Fcall : Fun K "__call__" "Size.__call__" S_Size___call__ fcall dc
  Feq : Fun K "__eq__" "Size.__eq__" S_Size___eq__ feq de
  badd : Binds K da ["self", "other"] []
  bsub : Binds K dsu ["self", "other"] []
  bmul : Binds K dm ["self", "other"] []
  bneg : Binds K dn ["self"] []
  bcall : Binds K dc ["self", "n"] []
  beq : Binds K de ["self", "other"] []
  neg : PySem.W.findIn K (.ref C) "__neg__" = some (some (.ref fneg))
  fneg : PySem.W.isFn K (.ref fneg) = true
  call : CallO K C fcall
  eq : PySem.W.findIn K (.ref C) "__eq__" = some (some (.ref feq))
  feq : PySem.W.isFn K (.ref feq) = true
  ne : PySem.W.findIn K (.ref C) "__ne__" = some (some (.builtin "object.__ne__"))
  tup : PySem.W.subIn K (.type "tuple") (.ref C) = some false
  str : PySem.W.subIn K (.type "str") (.ref C) = some false
/-- size(n): an int, a Size -/
def spCall (K : PySem.W.Frag) (C : Addr) : Sp := fun vs H Q _ => ∃ a y xs, vs = [.ref a, y] ∧ SzAt K C H a xs ∧ xs.length ≤ 20 ∧
  ((∃ i b m, y = .int i ∧ Bd b xs ∧ i.natAbs < 2 ^ m ∧ 0 < b ∧ 0 < m ∧ b + xs.length * (m + 1) + m ≤ 1000000 ∧ ∀ H', Same H H' → Q (.int (ev xs i)) H') ∨
   (∃ u ys b, y = .ref u ∧ SzAt K C H u ys ∧ ys.length ≤ 8 ∧ Bd b xs ∧ Bd b ys ∧ 0 < b ∧ b ≤ 2000 ∧ ∀ p H', Same H H' → SzAt K C H' p (cmp xs ys) → Q (.ref p) H'))
theorem ev_rev (xs : List Int) (n : Int) {i : Nat} {x : Int} (h : xs[xs.length - 1 - i]? = some x) (hi : i < xs.length) : ev (xs.drop (xs.length - (i + 1))) n = ev (xs.drop (xs.length - i)) n * n + x := by
  have e : xs.length - i = (xs.length - 1 - i) + 1 := by omega
  have e2 : xs.length - (i + 1) = xs.length - 1 - i := by omega
  rw [e, e2, List.drop_eq_getElem_cons (by omega : xs.length - 1 - i < xs.length)]
  have hx : xs[xs.length - 1 - i] = x := by
    have := List.getElem?_eq_getElem (show xs.length - 1 - i < xs.length by omega)
    rw [this] at h
    exact Option.some.inj h
  rw [hx, ev]
theorem cmp_rev (xs ys : List Int) {i : Nat} {x : Int} (h : xs[xs.length - 1 - i]? = some x) (hi : i < xs.length) : cmp (xs.drop (xs.length - (i + 1))) ys = trim (sumL (trim (mulL (cmp (xs.drop (xs.length - i)) ys) ys)) [x]) := by
  have e : xs.length - i = (xs.length - 1 - i) + 1 := by omega
  have e2 : xs.length - (i + 1) = xs.length - 1 - i := by omega
  rw [e, e2, List.drop_eq_getElem_cons (by omega : xs.length - 1 - i < xs.length)]
  have hx : xs[xs.length - 1 - i] = x := by
    have := List.getElem?_eq_getElem (show xs.length - 1 - i < xs.length by omega)
    rw [this] at h
    exact Option.some.inj h
  rw [hx, cmp]
theorem Bd.drop {b : Nat} {xs : List Int} (h : Bd b xs) (k : Nat) : Bd b (xs.drop k) := fun c hc => h c (List.mem_of_mem_drop hc)
theorem cmp_len : ∀ xs ys : List Int, (cmp xs ys).length ≤ xs.length * ys.length + 1
  | [], _ => Nat.zero_le _
  | c :: r, ys => by
    have ih := cmp_len r ys
    rw [cmp]
    refine Nat.le_trans (trim_len _) ?_
    rw [len_sumL]
    show max _ 1 ≤ (r.length + 1) * ys.length + 1
    rw [Nat.succ_mul]
    have := trim_len (mulL (cmp r ys) ys)
    rw [len_mulL] at this
    omega
theorem cmp_bd {b : Nat} (hb : 0 < b) : ∀ {xs ys : List Int}, xs.length ≤ 20 → ys.length ≤ 8 → Bd b xs → Bd b ys → Bd (b + xs.length * (b + 200)) (cmp xs ys)
  | [], _, _, _, _, _ => Bd.nil
  | c :: r, ys, hl, hy, h, g => by
    have hl' : r.length ≤ 20 := by rw [List.length_cons] at hl; omega
    have ih := cmp_bd hb hl' hy (fun d hd => h d (List.mem_cons_of_mem _ hd)) g
    rw [cmp]
    have h1 := Bd.trim (Bd.mulL ih g)
    have hlen : (cmp r ys).length ≤ 161 := by
      have := cmp_len r ys
      have : r.length * ys.length ≤ 20 * 8 := Nat.mul_le_mul hl' hy
      omega
    refine Bd.trim (Bd.mono (Bd.sumL (Bd.mono h1 (j := b + r.length * (b + 200) + b + (cmp r ys).length) (k := b + r.length * (b + 200) + b + 161) (by omega)) (Bd.mono (fun d hd => ?_) (j := b) (by omega))) ?_)
    · have : d = c := by simpa using hd
      rw [this]
      exact h c (List.mem_cons_self ..)
    · rw [List.length_cons, Nat.succ_mul]; omega
section
variable {P : Program} {w : World} {K : PySem.W.Frag} {mg : Str → Option Value} {base : Heap} {C fT fS fP fN fI fO fA fM : Addr} {fdT fdS fdP fdN fdI fdO fdA fdM fdG : FuncData} {pc g : Addr} {dvs : List V} {ds : List Value}
  {fadd fsub fmul fneg fcall feq : Addr} {da dsu dm dn dc de : FuncData}
theorem ok_call (D : SzDefs K mg C fT fS fP fN fI fO fA fM fdT fdS fdP fdN fdI fdO fdA fdM fdG pc g dvs ds) (O : SzOps K C fadd fsub fmul fneg fcall feq da dsu dm dn dc de) : FnOk P w K mg base CX0 5 fcall dc ["self", "n"] (spCall K C) := by
  have GA : FnOk P w K mg base CX0 4 fadd da ["self", "other"] (spBin K C sumL CnAny) := ok_add O.Fadd D
  have GM : FnOk P w K mg base CX0 4 fmul dm ["self", "other"] (spBin K C mulL CnMul) := ok_mul O.Fmul D
  refine O.Fcall.ok sc_Size___call__ (fun vs H Q E h => ?_) (fun cdv A outer s H vs Q E hr h => ?_)
  · obtain ⟨a, y, xs, rfl, _⟩ := h; rfl
  · obtain ⟨a, y, xs, rfl, hz, hxl, k⟩ := h
    obtain ⟨dx, t, ha, ht⟩ := id hz
    obtain ⟨t0, hdv, ht0⟩ := D.dv
    refine ⟨_, pss_cons (ps_set (i := 2) sc_Size___call__.nd rfl (Or.inl rfl) (pe_ifExp (pt_val (pe_callB call_isi (by rfl) D.B.isinstance (by decide +kernel) (pa_cons (pv 1) (pa_cons (pe_glob (by rfl) D.Z.mgC (v := .ref C) rfl) pa_nil))))
        (pe_make0 D.M D.okI (hr.mono (by decide)) (by rfl) D.Z.mgC D.bM0 D.hd pass0) pe_int))
      (pss_cons (ps_for PassesOwn.never rfl (pi_revA (by rfl) D.B.reversed (pe_fld (pv 0) rfl)) (pg_name (i := 3) sc_Size___call__.nd rfl (Or.inl rfl))
        (pss_one (ps_set (i := 2) sc_Size___call__.nd rfl (Or.inl rfl)
          (pe_op (op_add.or (op_own O.add GA hr O.badd pass0)) (pe_op (op_mulW.or (op_own O.mul GM hr O.bmul pass0)) (pv 2) (pv 1)) (pv 3)))))
      (pss_one (ps_ret (pv 2)))), ?_⟩
    rcases k with ⟨i, b, m, rfl, hb, hm, b0, m0, hbm, k⟩ | ⟨u, ys, b, rfl, hu, hyl, hb, hb2, b0, b1, k⟩
    · refine ⟨_, rfl, _, _, _, _, false, rfl, .own C, .base (.int i), kit_cls_ref D.Z.isC D.Z.tyC (by rfl) D.Z.intC, false, rfl, ?_⟩
      refine iteF ?_
      refine ⟨_, rfl, a, C, dx, _, _, rfl, ha, D.Z.kit.cl, D.Z.nP, rfl, t, iz xs, rfl, .inr ⟨ht, for_ItvT (xs := iz xs) (fun j σ H' => ∃ v3, σ = [some (.ref a), some (.int i), some (.int (ev (xs.drop (xs.length - j)) i)), v3] ∧ H' = H)
        ⟨none, by simp [ev]; rfl, rfl⟩ (fun j σ H' ⟨_, _, e⟩ => by rw [e]; exact ht) ?_ ?_⟩⟩
      · rintro j v σ H' hj hv ⟨v3, rfl, rfl⟩
        rw [iz_len] at hj hv
        obtain ⟨x, hx, rfl⟩ := of_iz_get hv
        have hd := Bd.drop hb (xs.length - j)
        have hl : (xs.drop (xs.length - j)).length ≤ xs.length := by rw [List.length_drop]; omega
        have hlt := ev_lt hd hm
        have hle : (xs.drop (xs.length - j)).length * (m + 1) ≤ xs.length * (m + 1) := Nat.mul_le_mul_right _ hl
        refine ⟨_, rfl, _, rfl, .inl ⟨_, _, rfl, rfl, wide_mul hlt hm (by omega) m0 (by omega), _, rfl, .inl ⟨_, _, rfl, rfl, ?_⟩⟩⟩
        refine ⟨some (.int x), ?_, rfl⟩
        rw [ev_rev xs i hx hj]
        rfl
      · rintro σ H' ⟨v3, rfl, rfl⟩
        rw [iz_len, Nat.sub_self, List.drop_zero]
        exact ⟨_, rfl, k _ (Same.refl _)⟩
    · obtain ⟨dy, tu, hu1, hu2⟩ := id hu
      refine ⟨_, rfl, _, _, _, _, true, rfl, .own C, D.Z.kit.ty hu1, kit_self (by simp), true, rfl, ?_⟩
      refine iteT ?_
      intro x dx' nx nd ne
      rw [hdv]
      refine ⟨x, dx', t0, [], rfl, upd_same, ht0 _, Nat.zero_le _, fun H3 s3 h3 => ⟨rfl, ?_⟩⟩
      have s0 : Same H H3 := Same.made nx nd s3
      refine ⟨_, rfl, a, C, dx, _, _, rfl, s0 _ _ ha, D.Z.kit.cl, D.Z.nP, rfl, t, iz xs, rfl, .inr ⟨s0.tup ht, for_ItvT (xs := iz xs) (fun j σ H' => ∃ v3 p, σ = [some (.ref a), some (.ref u), some (.ref p), v3] ∧ Same H H' ∧ SzAt K C H' p (cmp (xs.drop (xs.length - j)) ys))
        ⟨none, x, rfl, s0, by simpa [cmp, trim] using h3⟩ (fun j σ H' ⟨_, _, _, s1, _⟩ => s1.tup ht) ?_ ?_⟩⟩
      · rintro j v σ H' hj hv ⟨v3, p, rfl, s1, hp⟩
        rw [iz_len] at hj hv
        obtain ⟨z, hx, rfl⟩ := of_iz_get hv
        have hd := Bd.drop hb (xs.length - j)
        have hl : (xs.drop (xs.length - j)).length ≤ 20 := by rw [List.length_drop]; omega
        have hc := cmp_bd b0 hl hyl hd hb2
        have hcl := cmp_len (xs.drop (xs.length - j)) ys
        have hcm : (xs.drop (xs.length - j)).length * ys.length ≤ 20 * 8 := Nat.mul_le_mul hl hyl
        have hcb : (xs.drop (xs.length - j)).length * (b + 200) ≤ 20 * (b + 200) := Nat.mul_le_mul_right _ hl
        obtain ⟨dp, tp, hp1, hp2⟩ := id hp
        obtain ⟨du, tu', hu3, hu4⟩ := id (hu.same s1)
        refine ⟨_, rfl, _, rfl, .inr ⟨p, dp, _, rfl, hp1, .inl ⟨u, du, _, rfl, hu3⟩, p, .ref u, _, ys, rfl, hp, .inl ⟨u, rfl, hu.same s1⟩, by omega, by omega, fun c hc' d hd' => wide_mul (hc c hc') (hb2 d hd') (by omega) b0 (by omega), fun q H2 s2 hq => ?_⟩⟩
        obtain ⟨dq, tq, hq1, hq2⟩ := id hq
        refine ⟨_, rfl, .inr ⟨q, dq, _, rfl, hq1, .inr ⟨z, rfl⟩, q, .int z, _, [z], rfl, hq, .inr ⟨z, rfl, rfl⟩, ?_, by show 1 ≤ 400; decide, trivial, fun r H4 s4 hr4 => ?_⟩⟩
        · have := trim_len (mulL (cmp (xs.drop (xs.length - j)) ys) ys)
          rw [len_mulL] at this
          omega
        · refine ⟨some (.int z), r, rfl, (s1.trans s2).trans s4, ?_⟩
          rw [cmp_rev xs ys hx hj]
          exact hr4
      · rintro σ H' ⟨v3, p, rfl, s1, hp⟩
        rw [iz_len, Nat.sub_self, List.drop_zero] at hp
        exact ⟨_, rfl, k p H' s1 hp⟩
end

end K02

namespace K02
open PySem L2 SZ VR VX StX RT
/-! ### sums -/
/-- a part is added to what stands with its counter -/
def addC : List (List Nat × List Int) → List Nat → List Int → List (List Nat × List Int)
  | [], c, xs => [(c, trim (sumL [] xs))]
  | (d, ys) :: r, c, xs => if d = c then (d, trim (sumL ys xs)) :: r else (d, ys) :: addC r c xs
def partC (n : Int) (pw : Nat) : List Int := trim (List.replicate pw 0 ++ [n])
def sumsLoop (ts : List (List Nat × Nat)) (idx : Bool) : Nat → Nat → Int → List (List Nat × List Int) → Res (List (List Nat × List Int))
  | 0, _, _, _ => .syn 0
  | f + 1, k, sg, cs => match partM ts idx k with
    | .syn p => .syn p
    | .big w => .big w
    | .ok v k' =>
      if tk ts k' = [43] then sumsLoop ts idx f (k' + 1) 1 (addC cs v.2.2 (partC (sg * v.1) v.2.1))
      else if tk ts k' = [45] then sumsLoop ts idx f (k' + 1) (-1) (addC cs v.2.2 (partC (sg * v.1) v.2.1)) else .ok (addC cs v.2.2 (partC (sg * v.1) v.2.1)) k'
def sumsM (ts : List (List Nat × Nat)) (idx : Bool) (k : Nat) : Res (List (List Nat × List Int)) :=
  if tk ts k = [45] then sumsLoop ts idx ts.length (k + 1) (-1) [([], [])] else sumsLoop ts idx ts.length k 1 [([], [])]
theorem partLoop_gt (ts : List (List Nat × Nat)) (idx : Bool) : ∀ (f k pw : Nat) (v : Nat × List Nat) (k' : Nat), partLoop ts idx f k pw = .ok v k' → k < k'
  | 0, _, _, _, _, h => by cases h
  | f + 1, k, pw, v, k', h => by
    unfold partLoop at h
    split at h
    · split at h
      · have := partLoop_gt ts idx f _ _ _ _ h
        omega
      · cases h
        omega
    · split at h
      · cases h
        omega
      · cases h
theorem partFin_ok {n : Int} {r : Res (Nat × List Nat)} {v : Int × Nat × List Nat} {k' : Nat} (h : partFin n r = .ok v k') : (∃ u, r = .ok u k') ∧ v.2.1 ≤ 3 := by
  cases r with
  | ok u j =>
    obtain ⟨pw, c⟩ := u
    have h2 : (if 3 < pw then Res.big "degree" else Res.ok (n, pw, c) j) = .ok v k' := h
    split at h2
    · cases h2
    · cases h2
      exact ⟨⟨_, rfl⟩, by show pw ≤ 3; omega⟩
  | syn p => cases h
  | big w => cases h
theorem partM_ok {ts : List (List Nat × Nat)} {idx : Bool} {k : Nat} {v : Int × Nat × List Nat} {k' : Nat} (h : partM ts idx k = .ok v k') : k < k' ∧ v.2.1 ≤ 3 := by
  unfold partM at h
  split at h
  · split at h
    · cases h
    · obtain ⟨⟨u, e⟩, h3⟩ := partFin_ok h
      split at e
      · have := partLoop_gt _ _ _ _ _ _ _ e
        exact ⟨by omega, h3⟩
      · cases e
        exact ⟨by omega, h3⟩
  · obtain ⟨⟨u, e⟩, h3⟩ := partFin_ok h
    exact ⟨partLoop_gt _ _ _ _ _ _ _ e, h3⟩
/-- a dict with a Size for each counter -/
def SumAt (K : PySem.W.Frag) (CZ : Addr) (H : Hp) (d : Addr) (cs : List (List Nat × List Int)) : Prop := ∃ kvs : List (Key × V), H d = some (.dK kvs) ∧ Paired (fun kv p => kv.1 = .inr ⟨p.1.toArray⟩ ∧ ∃ a, kv.2 = .ref a ∧ SzAt K CZ H a p.2 ∧ p.2.length ≤ 4) kvs cs
theorem key_inj {c d : List Nat} : ((.inr ⟨c.toArray⟩ : Key) = .inr ⟨d.toArray⟩) ↔ c = d := by
  constructor
  · intro z
    injection z with z
    injection z with z
    simpa using z
  · intro z
    rw [z]
/-- what stands with a counter -/
def getC : List (List Nat × List Int) → List Nat → Option (List Int)
  | [], _ => none
  | (d, ys) :: r, c => if d = c then some ys else getC r c
theorem sum_get {K : PySem.W.Frag} {CZ : Addr} {H : Hp} (c : List Nat) : ∀ {kvs : List (Key × V)} {cs : List (List Nat × List Int)}, Paired (fun kv p => kv.1 = .inr ⟨p.1.toArray⟩ ∧ ∃ a, kv.2 = .ref a ∧ SzAt K CZ H a p.2 ∧ p.2.length ≤ 4) kvs cs →
    (getC cs c = none ∧ valV kvs (.inr ⟨c.toArray⟩ : Key) = none) ∨ ∃ ys a, getC cs c = some ys ∧ valV kvs (.inr ⟨c.toArray⟩ : Key) = some (.ref a) ∧ SzAt K CZ H a ys ∧ ys.length ≤ 4
  | _, _, .nil => .inl ⟨rfl, rfl⟩
  | _, _, .cons (a := kv) (b := p) (l₁ := r1) (l₂ := r2) ⟨e, a, ea, hz, hl⟩ r => by
    obtain ⟨d, ys⟩ := p
    by_cases hd : d = c
    · subst hd
      exact .inr ⟨ys, a, by unfold getC; rw [if_pos rfl], by rw [valV_pos (p := kv) e, ea], hz, hl⟩
    · have ne : ¬ kv.1 = (.inr ⟨c.toArray⟩ : Key) := fun z => hd (key_inj.mp (e.symm.trans z))
      have g : getC ((d, ys) :: r2) c = getC r2 c := by
        show (if d = c then some ys else getC r2 c) = _
        rw [if_neg hd]
      rw [g, valV_neg (p := kv) ne]
      exact sum_get c r
theorem addC_len (ys xs : List Int) (h1 : ys.length ≤ 4) (h2 : xs.length ≤ 4) : (trim (sumL ys xs)).length ≤ 4 := Nat.le_trans (trim_len _) (by rw [len_sumL]; omega)
theorem putK_ne {p : Key × V} {r : List (Key × V)} {k : Key} {v : V} (h : ¬ p.1 = k) : putK (p :: r) k v = p :: putK r k v := by
  unfold putK
  rw [List.any_cons, decide_eq_false h, Bool.false_or]
  split
  · rw [List.map_cons, if_neg h]
  · rfl
theorem putK_eq {p : Key × V} {r : List (Key × V)} {k : Key} {v : V} (h : p.1 = k) (hr : ∀ q ∈ r, ¬ q.1 = k) : putK (p :: r) k v = (p.1, v) :: r := by
  unfold putK
  rw [List.any_cons, decide_eq_true h, Bool.true_or, if_pos rfl, List.map_cons, if_pos h]
  congr 1
  exact (List.map_congr_left (f := fun kv : Key × V => if kv.1 = k then (kv.1, v) else kv) (g := id) (fun q hq => if_neg (hr q hq))).trans (List.map_id r)
theorem sum_put {K : PySem.W.Frag} {CZ : Addr} {H : Hp} {b : Addr} (c : List Nat) (xs : List Int) (hx : xs.length ≤ 4) : ∀ {kvs : List (Key × V)} {cs : List (List Nat × List Int)}, Paired (fun kv p => kv.1 = .inr ⟨p.1.toArray⟩ ∧ ∃ a, kv.2 = .ref a ∧ SzAt K CZ H a p.2 ∧ p.2.length ≤ 4) kvs cs →
    SzAt K CZ H b (trim (sumL ((getC cs c).getD []) xs)) → (cs.map (·.1)).Nodup → Paired (fun kv p => kv.1 = .inr ⟨p.1.toArray⟩ ∧ ∃ a, kv.2 = .ref a ∧ SzAt K CZ H a p.2 ∧ p.2.length ≤ 4) (putK kvs (.inr ⟨c.toArray⟩ : Key) (.ref b)) (addC cs c xs)
  | _, _, .nil, hb, _ => .cons ⟨rfl, b, rfl, hb, addC_len [] xs (by simp) hx⟩ .nil
  | _, _, .cons (a := kv) (b := p) (l₁ := r1) (l₂ := r2) ⟨e, a, ea, hz, hl⟩ r, hb, nd => by
    obtain ⟨d, ys⟩ := p
    rw [List.map_cons, List.nodup_cons] at nd
    by_cases hd : d = c
    · subst hd
      have far : ∀ q ∈ r1, ¬ q.1 = (.inr ⟨d.toArray⟩ : Key) := fun q hq z => by
        have key : ∀ {l1 : List (Key × V)} {l2 : List (List Nat × List Int)}, Paired (fun kv p => kv.1 = .inr ⟨p.1.toArray⟩ ∧ ∃ a, kv.2 = .ref a ∧ SzAt K CZ H a p.2 ∧ p.2.length ≤ 4) l1 l2 → q ∈ l1 → d ∈ l2.map (·.1) := by
          intro l1 l2 w
          induction w with
          | nil => intro h; cases h
          | cons h t ih =>
            intro h2
            rcases List.mem_cons.mp h2 with h3 | h3
            · subst h3
              rw [h.1] at z
              rw [List.map_cons, key_inj.mp z]
              exact List.mem_cons_self ..
            · rw [List.map_cons]
              exact List.mem_cons_of_mem _ (ih h3)
        exact nd.1 (key r hq)
      rw [putK_eq (p := kv) e far]
      have g : addC ((d, ys) :: r2) d xs = (d, trim (sumL ys xs)) :: r2 := by
        show (if d = d then _ else _) = _
        rw [if_pos rfl]
      have g2 : getC ((d, ys) :: r2) d = some ys := by
        show (if d = d then some ys else _) = _
        rw [if_pos rfl]
      rw [g2] at hb
      rw [g]
      exact .cons ⟨e, b, rfl, hb, addC_len ys xs hl hx⟩ r
    · have ne : ¬ kv.1 = (.inr ⟨c.toArray⟩ : Key) := fun z => hd (key_inj.mp (e.symm.trans z))
      have g : addC ((d, ys) :: r2) c xs = (d, ys) :: addC r2 c xs := by
        show (if d = c then _ else _) = _
        rw [if_neg hd]
      have g2 : getC ((d, ys) :: r2) c = getC r2 c := by
        show (if d = c then some ys else getC r2 c) = _
        rw [if_neg hd]
      rw [g2] at hb
      rw [putK_ne (p := kv) ne, g]
      exact .cons ⟨e, a, ea, hz, hl⟩ (sum_put c xs hx r hb nd.2)
theorem addC_keys (c : List Nat) (xs : List Int) : ∀ cs : List (List Nat × List Int), (cs.map (·.1)).Nodup → ((addC cs c xs).map (·.1)).Nodup ∧ ∀ d, d ∈ (addC cs c xs).map (·.1) → d = c ∨ d ∈ cs.map (·.1)
  | [], _ => ⟨by simp [addC], fun d hd => .inl (by simpa [addC] using hd)⟩
  | (d, ys) :: r, nd => by
    rw [List.map_cons, List.nodup_cons] at nd
    by_cases h : d = c
    · have g : addC ((d, ys) :: r) c xs = (d, trim (sumL ys xs)) :: r := by
        show (if d = c then _ else _) = _
        rw [if_pos h]
      rw [g]
      exact ⟨by rw [List.map_cons, List.nodup_cons]; exact nd, fun e he => .inr he⟩
    · have g : addC ((d, ys) :: r) c xs = (d, ys) :: addC r c xs := by
        show (if d = c then _ else _) = _
        rw [if_neg h]
      obtain ⟨i1, i2⟩ := addC_keys c xs r nd.2
      rw [g]
      refine ⟨?_, fun e he => ?_⟩
      · rw [List.map_cons, List.nodup_cons]
        exact ⟨fun z => (i2 d z).elim h nd.1, i1⟩
      · rw [List.map_cons] at he ⊢
        rcases List.mem_cons.mp he with z | z
        · exact .inr (by rw [z]; exact List.mem_cons_self ..)
        · exact (i2 e z).imp id (List.mem_cons_of_mem _)

end K02

namespace K02
open PySem L2 SZ VR VX StX RT
/-- the class Size as the parser uses it -/
structure SzS (P : Program) (w : World) (K : PySem.W.Frag) (mg : Str → Option Value) (base : Heap) (CZ : Addr) : Prop where
  m : mg "Size" = some (.ref CZ)
  mkS : ∃ (f : Addr) (fd : FuncData) (ds : List Value) (t0 : Addr), Mk K CZ f ∧ FnOk P w K mg base CX0 2 f fd ["self", "parts"] (spInit K CZ) ∧ Binds K fd ["self", "parts"] [] ∧ Binds K fd ["self", "parts"] ds ∧ Vals [V.ref t0] ds ∧ ∀ H, SqT K H t0 []
  add : ∃ (f : Addr) (fd : FuncData), BinOwn K CZ "add" f ∧ Binds K fd ["self", "other"] [] ∧ FnOk P w K mg base CX0 4 f fd ["self", "other"] (spBin K CZ sumL CnAny)
/-- a text in a tuple of two texts -/
def rInTwo (K : PySem.W.Frag) (p q : Str) : R2 := fun x y H Q => ∃ (z : Str) (a : Addr), x = .str z ∧ y = .ref a ∧ SqT K H a [.str p, .str q] ∧ Q (.bl (decide (z = p) || decide (z = q))) H
theorem op_inTwo {X : Cx} {p q : Str} : OpR X (compareOp .In) (rInTwo X.K p q) := by
  intro pins s σ H x y v u Q I rx ry h
  obtain ⟨z, a, e1, e2, h, qq⟩ := h
  subst e1
  refine op_in_seq pins s σ H _ y v u Q I rx ry ⟨a, _, e2, .inr h, rfl, rfl, ?_⟩
  show Q (.bl (inV (.str z) [.str p, .str q])) H
  have e : inV (.str z) [.str p, .str q] = (decide (z = p) || decide (z = q)) := by
    refine Eq.trans (inV_str z [p, q]) ?_
    rw [List.contains_cons, List.contains_cons, List.contains_nil, Bool.or_false]
    congr 1
  rw [e]
  exact qq
theorem addC_length (c : List Nat) (xs : List Int) : ∀ cs : List (List Nat × List Int), (addC cs c xs).length ≤ cs.length + 1
  | [] => by simp [addC]
  | (d, ys) :: r => by
    have ih := addC_length c xs r
    show (if d = c then (d, trim (sumL ys xs)) :: r else (d, ys) :: addC r c xs).length ≤ _
    split
    · simp
    · rw [List.length_cons, List.length_cons]; omega
theorem putK_len {H : Hp} {K : PySem.W.Frag} {CZ : Addr} {kvs : List (Key × V)} {cs : List (List Nat × List Int)} (h : Paired (fun kv p => kv.1 = .inr ⟨p.1.toArray⟩ ∧ ∃ a, kv.2 = .ref a ∧ SzAt K CZ H a p.2 ∧ p.2.length ≤ 4) kvs cs) : kvs.length = cs.length := h.length
theorem partC_len (n : Int) (pw : Nat) (h : pw ≤ 3) : (partC n pw).length ≤ 4 := Nat.le_trans (trim_len _) (by rw [List.length_append, List.length_replicate]; simp; omega)
theorem RdAt.updD {C R d : Addr} {H : Hp} {ts : List (List Nat × Nat)} {k : Nat} {kvs : List (Key × V)} {o : HO} (h : RdAt C H R ts k) (e : H d = some (.dK kvs)) : RdAt C (upd H d o) R ts k := by
  obtain ⟨dx, l, h1, h2, vs, h3, h4⟩ := h
  have ne : ∀ {b : Addr} {u : HO}, H b = some u → (∀ z, u ≠ .dK z) → b ≠ d := fun {b u} eb n z => by rw [z, e] at eb; exact n _ (Option.some.inj eb).symm
  refine ⟨dx, l, by rw [upd_ne (ne h1 fun z => by simp)]; exact h1, by rw [upd_ne (ne h2 fun z => by simp)]; exact h2, vs, by rw [upd_ne (ne h3 fun z => by simp)]; exact h3, L2.Paired.mapP h4 fun v t ⟨p, e1, e2⟩ => ⟨p, e1, by rw [upd_ne (ne e2 fun z => by simp)]; exact e2⟩⟩
theorem SqT.butR {K : PySem.W.Frag} {H H' : Hp} {R t : Addr} {C dx : Addr} {fs : List (Str × V)} {xs : List V} (hR : H R = some (.ins C dx fs)) (b : ButR R H H') (h : SqT K H t xs) : SqT K H' t xs := by
  rcases h with (h | ⟨o, h⟩) | h
  · exact .inl (.inl (b _ _ h (fun z => by rw [z, hR] at h; cases h)))
  · exact .inl (.inr ⟨o, b _ _ h (fun z => by rw [z, hR] at h; cases h)⟩)
  · exact .inr h
theorem SzAt.butR {K : PySem.W.Frag} {CZ C R a : Addr} {H H' : Hp} {ts : List (List Nat × Nat)} {k : Nat} {xs : List Int} (r : RdAt C H R ts k) (b : ButR R H H') (h : SzAt K CZ H a xs) : SzAt K CZ H' a xs := by
  obtain ⟨dx, l, hR, _⟩ := r
  obtain ⟨dz, t, h1, h2⟩ := h
  exact ⟨dz, t, b _ _ h1 (fun z => by rw [z, hR] at h1; simp at h1), SqT.butR hR b h2⟩
theorem SumAt.butR {K : PySem.W.Frag} {CZ C R d : Addr} {H H' : Hp} {ts : List (List Nat × Nat)} {k : Nat} {cs : List (List Nat × List Int)} (r : RdAt C H R ts k) (b : ButR R H H') (h : SumAt K CZ H d cs) : SumAt K CZ H' d cs := by
  obtain ⟨kvs, h1, h2⟩ := h
  obtain ⟨dx, l, hR, _⟩ := id r
  exact ⟨kvs, b _ _ h1 (fun z => by rw [z, hR] at h1; cases h1), L2.Paired.mapP h2 fun kv p ⟨e, a, ea, hz, hl⟩ => ⟨e, a, ea, hz.butR r b, hl⟩⟩
theorem SumAt.same {K : PySem.W.Frag} {CZ d : Addr} {H H' : Hp} {cs : List (List Nat × List Int)} (h : SumAt K CZ H d cs) (s : Same H H') : SumAt K CZ H' d cs := by
  obtain ⟨kvs, h1, h2⟩ := h
  exact ⟨kvs, s _ _ h1, L2.Paired.mapP h2 fun kv p ⟨e, a, ea, hz, hl⟩ => ⟨e, a, ea, hz.same s, hl⟩⟩
theorem SzAt.updD {K : PySem.W.Frag} {CZ a d : Addr} {H : Hp} {xs : List Int} {kvs : List (Key × V)} {o : HO} (h : SzAt K CZ H a xs) (e : H d = some (.dK kvs)) : SzAt K CZ (upd H d o) a xs := by
  obtain ⟨dz, t, h1, h2⟩ := h
  exact ⟨dz, t, by rw [upd_ne (fun z => by rw [z, e] at h1; cases h1)]; exact h1, SqT.updNT h2 e (fun ys => by simp) (fun ob v => by simp)⟩
def spSums (K : PySem.W.Frag) (C CS CT CZ : Addr) : Sp := fun vs H Q E => ∃ (R : Addr) (ts : List (List Nat × Nat)) (k : Nat) (idx : Bool), vs = [.ref R, .bl idx] ∧ RdAt C H R ts k ∧ k < ts.length ∧ Snt ts ∧
  Ends' C CS CT R H ts (fun v H' x => ∃ p : Addr, x = .ref p ∧ SumAt K CZ H' p v) (sumsM ts idx k) Q E
section
variable {P : Program} {w : World} {K : PySem.W.Frag} {mg : Str → Option Value} {base : Heap} {C CS CT CZ : Addr}
theorem ok_sums {f fQ : Addr} {fd dQ : FuncData} (F : Fun K "_sums" "_sums" S_sums f fd) (FQ : Fun K "_part" "_part" S_part fQ dQ) (bQ : Binds K dQ ["reader", "in_index"] []) (gQ : mg "_part" = some (.ref fQ)) (Y : RdS P w K mg base C CS CT) (B : PtB mg) (Wz : SzS P w K mg base CZ) : FnOk P w K mg base (L2.CX P w) 6 f fd ["reader", "in_index"] (spSums K C CS CT CZ) := by
  have Z := Y.Z
  have GQ : FnOk P w K mg base (L2.CX P w) 5 fQ dQ ["reader", "in_index"] (spPart C CS CT) := ok_part FQ Y B
  obtain ⟨fT, dT, MT, bT, GTk⟩ := Y.tok
  obtain ⟨fA, dA, MA, bA, GA⟩ := Y.any
  obtain ⟨fP, dP, MP, bP, GP⟩ := Y.passes
  obtain ⟨fM, dM, ds, t0, MM, GM, bM, bM0, hd, ht0⟩ := Wz.mkS
  obtain ⟨fD, dD, BD, bD, GD⟩ := Wz.add
  refine F.okX sc_sums (fun vs H Q E h => ?_) (fun cdv A outer s H vs Q E hr h => ?_)
  · obtain ⟨R, ts, k, idx, rfl, _⟩ := h; rfl
  · obtain ⟨R, ts, k, idx, rfl, hRd, hkl, hS, q⟩ := h
    have hr1 : Room 1 _ := hr.mono (by decide)
    have hr2 : Room 2 _ := hr.mono (by decide)
    have hr3 : Room 3 _ := hr.mono (by decide)
    have hr4 : Room 4 _ := hr.mono (by decide)
    refine ⟨_, pss_cons (ps_set (i := 2) sc_sums.nd rfl (Or.inl rfl) (pe_disp (pps_cons pe_str (pe_make0 MM GM hr3 (by rfl) Wz.m bM0 hd pass0) pps_nil) (by rfl) rfl (by simp) (by decide)))
      (pss_cons (ps_set (i := 3) sc_sums.nd rfl (Or.inl rfl) (pe_ifExp (pt_val (pe_meth (pv 0) Z.kit.cl MP GP hr2 bP .nil pass0 (pa_cons pe_str pa_nil))) (pe_un un_neg pe_int) pe_int))
      (pss_cons (ps_set (i := 4) sc_sums.nd rfl (Or.inl rfl) pe_bl)
      (pss_cons (ps_while (passes_of rfl) (pt_val (pv 4))
        (pss_cons (ps_asg (pe_call GQ hr (by rfl) gQ FQ.kp bQ .nil (passes_call (takes_of rfl rfl rfl rfl) (fun _ _ _ _ h => h)) (pa_cons (pv 0) (pa_cons (pv 1) pa_nil)))
          (pg_tup rfl (pgs_cons (pg_name (i := 5) sc_sums.nd rfl (Or.inl rfl)) (pgs_cons (pg_name (i := 6) sc_sums.nd rfl (Or.inl rfl)) (pgs_cons (pg_name (i := 7) sc_sums.nd rfl (Or.inl rfl)) pgs_nil)))))
        (pss_cons (ps_set (i := 8) sc_sums.nd rfl (Or.inl rfl) (pe_make MM GM hr3 (by rfl) Wz.m bM .nil pass0 (pa_cons (pe_op op_catW (pe_op op_repW (pe_tup (pa_cons pe_int pa_nil)) (pv 6)) (pe_tup (pa_cons (pe_op op_mul (pv 3) (pv 5)) pa_nil))) pa_nil)))
        (pss_cons (ps_asg (pe_op (op_own BD GD hr4 bD pass0) (pe_dget2 (hu_of hr) (pv 2) (pv 7) (pe_make0 MM GM hr3 (by rfl) Wz.m bM0 hd pass0) ⟨rfl, rfl, rfl, rfl⟩) (pv 8)) (pg_sub (pv 2) (pv 7) (set_dict (hu_of hr))))
        (pss_cons (ps_set (i := 4) sc_sums.nd rfl (Or.inl rfl) (pe_cmpR (op_inTwo (p := Str.ofString "+") (q := Str.ofString "-")) (pe_meth0 (pv 0) Z.kit.cl MT GTk hr1 bT .nil pass0) (pe_tup (pa_cons pe_str (pa_cons pe_str pa_nil))) (by rfl)))
        (pss_one (ps_if (pt_val (pv 4)) (pss_one (ps_set (i := 3) sc_sums.nd rfl (Or.inl rfl) (pe_ifExp (pt_cmpR op_eq (pe_meth0 (pv 0) Z.kit.cl MA GA hr2 bA .nil pass0) pe_str (nomark _)) (pe_un un_neg pe_int) pe_int))) pss_nil)))))))
      (pss_one (ps_ret (pv 2)))))), ?_⟩
    obtain ⟨dx, l, hR, ho, hL⟩ := id hRd
    have sM : Str.ofString "-" = ⟨#[45]⟩ := by decide +kernel
    have sP : Str.ofString "+" = ⟨#[43]⟩ := by decide +kernel
    have s0 : Str.ofString "" = (⟨([] : List Nat).toArray⟩ : Str) := by decide +kernel
    refine fun d0 hd0 x dx0 nx nd ne => ⟨x, dx0, t0, [], rfl, upd_same, ht0 _, by simp, fun H1 m1 z1 => ⟨rfl, ?_⟩⟩
    have made := Same.made nx nd m1
    have hE := made _ _ upd_same
    refine ⟨hE, [(.inr (Str.ofString ""), .ref x)], rfl, by simp, ?_⟩
    have hS2 : SumAt K CZ (upd H1 d0 (.dK (mergeK [] [(.inr (Str.ofString ""), .ref x)]))) d0 [([], [])] := ⟨_, upd_same, .cons ⟨by show (.inr (Str.ofString "") : Key) = _; rw [s0], x, rfl, SzAt.updD z1 hE, by simp⟩ .nil⟩
    have hR2 : RdAt C (upd H1 d0 (.dK (mergeK [] [(.inr (Str.ofString ""), .ref x)]))) R ts k := ((hRd.same (Same.new hd0)).same made).updD hE
    have b2 : ButR R H (upd H1 d0 (.dK (mergeK [] [(.inr (Str.ofString ""), .ref x)]))) := fun b o e n => by
      rw [upd_ne (ne_of_none e hd0)]
      exact made _ _ ((Same.new hd0) _ _ e)
    generalize upd H1 d0 (.dK (mergeK [] [(.inr (Str.ofString ""), .ref x)])) = H2 at hS2 hR2 b2
    obtain ⟨dx2, l2, hRR, _⟩ := id hR2
    refine' (fun rest => ?_ : (∀ (k0 : Nat) (sg : Int) (H0 : Hp), (sg = 1 ∨ sg = -1) → RdAt C H0 R ts k0 → k0 < ts.length → ButR R H H0 → SumAt K CZ H0 d0 [([], [])] → sumsLoop ts idx ts.length k0 sg [([], [])] = sumsM ts idx k →
      (_ : L2.St → Hp → Prop) [some (.ref R), some (.bl idx), some (.ref d0), some (.int sg), none, none, none, none, none] H0) → _) ?_
    rotate_left
    · by_cases hm : tk ts k = [45]
      · refine ⟨_, rfl, R, dx2, _, rfl, hRR, rfl, R, ts, k, _, _, rfl, hR2, at_tk hkl, .inr ⟨(tkEq sM).mpr hm, fun H3 h3 b3 => ⟨true, rfl, iteT ⟨1, rfl, ?_⟩⟩⟩⟩
        refine rest (k + 1) (-1) H3 (.inr rfl) h3 (hS.go k hkl (by rw [hm]; simp)) (b2.trans b3) (hS2.butR hR2 b3) ?_
        unfold sumsM
        rw [if_pos hm]
      · refine ⟨_, rfl, R, dx2, _, rfl, hRR, rfl, R, ts, k, _, _, rfl, hR2, at_tk hkl, .inl ⟨fun z => hm ((tkEq sM).mp z), false, rfl, iteF ?_⟩⟩
        refine rest k 1 H2 (.inl rfl) hR2 hkl b2 hS2 ?_
        unfold sumsM
        rw [if_neg hm]
    · intro k0 sg0 H0 hsg0 h0 hk0 b0 hs0 eM
      refine ⟨fun f σ H' => ∃ (k1 : Nat) (sg : Int) (cs : List (List Nat × List Int)) (g : Bool) (v5 v6 v7 v8 : Option V), σ = [some (.ref R), some (.bl idx), some (.ref d0), some (.int sg), some (.bl g), v5, v6, v7, v8] ∧ (sg = 1 ∨ sg = -1) ∧ RdAt C H' R ts k1 ∧ k1 < ts.length ∧ ButR R H H' ∧ SumAt K CZ H' d0 cs ∧
        (cs.map (·.1)).Nodup ∧ cs.length ≤ k1 + 1 ∧ ts.length ≤ k1 + f ∧ (if g = true then sumsLoop ts idx f k1 sg cs else .ok cs k1) = sumsM ts idx k,
        ⟨ts.length, k0, sg0, [([], [])], true, none, none, none, none, rfl, hsg0, h0, hk0, b0, hs0, by simp, by simp, by omega, by rw [if_pos rfl]; exact eM⟩, ?_⟩
      clear eM hs0 b0 hk0 h0 hsg0
      rintro f σ H' ⟨k1, sg, cs, g, v5, v6, v7, v8, rfl, hsg, h1, hk1, b1, hs, ndk, hcl, hf, eM⟩
      obtain ⟨dx1, l1, hR1, _⟩ := id h1
      refine ⟨_, rfl, g, rfl, ?_⟩
      cases g with
      | false =>
        refine iteF ?_
        rw [if_neg Bool.false_ne_true] at eM
        rw [← eM] at q
        exact ⟨_, rfl, q (.ref d0) _ h1 hk1 b1 ⟨d0, rfl, hs⟩⟩
      | true =>
        obtain ⟨f, rfl⟩ : ∃ f', f = f' + 1 := ⟨f - 1, by omega⟩
        rw [if_pos rfl] at eM
        refine iteT ⟨fun σ' H2 => ∃ (k1 : Nat) (sg : Int) (cs : List (List Nat × List Int)) (g : Bool) (v5 v6 v7 v8 : Option V), σ' = [some (.ref R), some (.bl idx), some (.ref d0), some (.int sg), some (.bl g), v5, v6, v7, v8] ∧ (sg = 1 ∨ sg = -1) ∧ RdAt C H2 R ts k1 ∧ k1 < ts.length ∧ ButR R H H2 ∧ SumAt K CZ H2 d0 cs ∧
          (cs.map (·.1)).Nodup ∧ cs.length ≤ k1 + 1 ∧ ts.length ≤ k1 + f ∧ (if g = true then sumsLoop ts idx f k1 sg cs else .ok cs k1) = sumsM ts idx k, fun σ' H2 hN => ⟨f, Nat.lt_succ_self f, hN⟩, ?_⟩
        refine ⟨_, rfl, _, rfl, R, ts, k1, idx, rfl, h1, hk1, hS, ?_⟩
        unfold sumsLoop at eM
        cases hp : partM ts idx k1 with
        | syn p =>
          rw [hp] at eM
          rw [← eM] at q
          exact Out.but q b1
        | big wd =>
          rw [hp] at eM
          rw [← eM] at q
          exact OutW.but q b1
        | ok v k' =>
          rw [hp] at eM
          obtain ⟨gk, gp⟩ := partM_ok hp
          obtain ⟨n, pw, c⟩ := v
          have gp : pw ≤ 3 := gp
          rintro xv H3 h3 hk3 b3 ⟨pt, rfl, hT⟩
          refine ⟨pt, _, rfl, .of hT, rfl, _, _, rfl, _, _, rfl, _, _, rfl, rfl, ?_⟩
          have hs3 := hs.butR h1 b3
          refine ⟨lenS (by simp), fun z0 hz0 => ⟨_, rfl, z0, pw, [.int 0], rfl, rfl, .of upd_same, by simp, by omega, by simp, fun tz Hz sz0 htz => ?_⟩⟩
          rw [iz_rep] at htz
          have sz := (Same.new hz0).trans sz0
          refine ⟨_, rfl, _, rfl, sg, n, rfl, rfl, .inl ⟨by rcases hsg with e | e <;> subst e <;> decide, by rcases hsg with e | e <;> subst e <;> decide⟩, lenS (by simp), fun z1 hz1 => ?_⟩
          refine ⟨tz, z1, iz (List.replicate pw 0), [.int (sg * n)], rfl, rfl, (Same.new hz1).tup htz, .of upd_same, by rw [iz_len, List.length_replicate]; exact lenS (by simp; omega), fun tt Ht st0 htt => ?_⟩
          have st := (Same.new (o := .tup [V.int (sg * n)]) hz1).trans st0
          have e3 : iz (List.replicate pw 0) ++ [V.int (sg * n)] = iz (List.replicate pw 0 ++ [sg * n]) := by simp [iz]
          rw [e3] at htt
          refine fun xz dz nxz ndz nez => ⟨xz, dz, tt, _, rfl, upd_same, ((Same.new ndz).upN (by rw [upd_ne nez.symm]; exact nxz)).tup htt, by rw [List.length_append, List.length_replicate]; simp; omega, fun H4 m4 z4 => ⟨rfl, ?_⟩⟩
          have S4 := (sz.trans st).trans (Same.made nxz ndz m4)
          refine ⟨_, rfl, d0, rfl, ?_⟩
          obtain ⟨kv0, hk0', P0⟩ := hs3.same S4
          refine ⟨.inl ⟨kv0, .inl hk0'⟩, _, rfl, ?_⟩
          refine fun y dy ny ndy ney => ⟨y, dy, t0, [], rfl, upd_same, ht0 _, by simp, fun H5 m5 z5 => ⟨rfl, ?_⟩⟩
          have S5 := S4.trans (Same.made ny ndy m5)
          obtain ⟨kvs, hk5, P5⟩ := hs3.same S5
          have hx5 := z4.same (Same.made ny ndy m5)
          refine ⟨_, DGet.k (k := .inr ⟨c.toArray⟩) hk5, ?_⟩
          have get : ∃ (b : Addr) (ys : List Int), (valV kvs (.inr ⟨c.toArray⟩ : Key)).getD (.ref y) = .ref b ∧ SzAt K CZ H5 b ys ∧ (getC cs c).getD [] = ys ∧ ys.length ≤ 4 := by
            rcases sum_get c P5 with ⟨g1, g2⟩ | ⟨ys, b, g1, g2, g3, g4⟩
            · exact ⟨y, [], by rw [g2]; rfl, z5, by rw [g1]; rfl, by simp⟩
            · exact ⟨b, ys, by rw [g2]; rfl, g3, by rw [g1]; rfl, g4⟩
          obtain ⟨b, ys, g1, g2, g3, g4⟩ := get
          rw [g1]
          obtain ⟨db, tb, hb1, _⟩ := id g2
          obtain ⟨dx5, tx5, hx1, _⟩ := id hx5
          have pl := partC_len (sg * n) pw gp
          refine ⟨_, rfl, b, db, _, rfl, hb1, .inl ⟨xz, dx5, _, rfl, hx1⟩, b, .ref xz, ys, partC (sg * n) pw, rfl, g2, .inl ⟨xz, rfl, hx5⟩, by omega, by omega, trivial, fun p6 H6 s6 z6 => ?_⟩
          have S6 := S5.trans s6
          obtain ⟨kv6, hk6, P6⟩ := hs3.same S6
          have e67 : kv6.length = cs.length := P6.length
          refine ⟨_, rfl, _, rfl, d0, _, rfl, DPut.k (k := .inr ⟨c.toArray⟩) hk6 (by rw [e67, sizeLine_eq]; have := hS.ln; omega), ?_⟩
          have hR7 : RdAt C (upd H6 d0 (.dK (putK kv6 (.inr ⟨c.toArray⟩) (.ref p6)))) R ts k' := (h3.same S6).updD hk6
          have hs7 : SumAt K CZ (upd H6 d0 (.dK (putK kv6 (.inr ⟨c.toArray⟩) (.ref p6)))) d0 (addC cs c (partC (sg * n) pw)) := by
            refine ⟨_, upd_same, L2.Paired.mapP (sum_put c _ pl P6 (by rw [g3]; exact z6) ndk) fun kv q ⟨e1, a1, ea1, hz1, hl1⟩ => ⟨e1, a1, ea1, hz1.updD hk6, hl1⟩⟩
          have b7 : ButR R H (upd H6 d0 (.dK (putK kv6 (.inr ⟨c.toArray⟩) (.ref p6)))) := fun o u e n => by
            rw [upd_ne (ne_of_none e hd0)]
            exact S6 _ _ ((b1.trans b3) _ _ e n)
          generalize upd H6 d0 (.dK (putK kv6 (.inr ⟨c.toArray⟩) (.ref p6))) = H7 at hR7 hs7 b7
          obtain ⟨dx7, l7, hRR7, _⟩ := id hR7
          refine ⟨_, rfl, R, dx7, _, rfl, hRR7, rfl, R, ts, k', _, rfl, hR7, at_tk hk3, lenS (by simp), fun z7 hz7 => ⟨_, z7, rfl, rfl, .of upd_same, ?_⟩⟩
          have hR8 := hR7.same (Same.new (o := .tup [.str (Str.ofString "+"), .str (Str.ofString "-")]) hz7)
          have hs8 := hs7.same (Same.new (o := .tup [.str (Str.ofString "+"), .str (Str.ofString "-")]) hz7)
          have b8 := b7.trans (ButR.of (R := R) (Same.new (o := .tup [.str (Str.ofString "+"), .str (Str.ofString "-")]) hz7))
          obtain ⟨dx8, l8, hRR8, _⟩ := id hR8
          have eP : decide ((⟨(tk ts k').toArray⟩ : Str) = Str.ofString "+") = decide (tk ts k' = [43]) := decide_eq_decide.mpr (tkEq sP)
          have eM' : decide ((⟨(tk ts k').toArray⟩ : Str) = Str.ofString "-") = decide (tk ts k' = [45]) := decide_eq_decide.mpr (tkEq sM)
          have ndk2 := (addC_keys c (partC (sg * n) pw) cs ndk).1
          have len2 := addC_length c (partC (sg * n) pw) cs
          rw [eP, eM']
          refine ⟨_, rfl, _, rfl, ?_⟩
          by_cases hp1 : tk ts k' = [43]
          · rw [decide_eq_true hp1, Bool.true_or]
            have eM2 : sumsLoop ts idx f (k' + 1) 1 (addC cs c (partC (sg * n) pw)) = sumsM ts idx k := by
              rw [← eM]
              show _ = if tk ts k' = [43] then _ else _
              rw [if_pos hp1]
            refine iteT ⟨_, rfl, R, dx8, _, rfl, hRR8, rfl, R, ts, k', _, rfl, hR8, at_tk hk3, fun H9 h9 b9 => ⟨rfl, _, rfl, ?_⟩⟩
            rw [decide_eq_false (p := V.str ⟨(tk ts k').toArray⟩ = V.str (Str.ofString "-")) (fun z => by have := (tkEq sM).mp (V.str.inj z); rw [hp1] at this; cases this)]
            refine iteF ?_
            exact ⟨k' + 1, 1, _, true, _, _, _, _, rfl, .inl rfl, h9, hS.go k' hk3 (by rw [hp1]; simp), b8.trans b9, hs8.butR hR8 b9, ndk2, by omega, by omega, by rw [if_pos rfl]; exact eM2⟩
          · by_cases hm1 : tk ts k' = [45]
            · rw [decide_eq_false hp1, decide_eq_true hm1, Bool.false_or]
              have eM2 : sumsLoop ts idx f (k' + 1) (-1) (addC cs c (partC (sg * n) pw)) = sumsM ts idx k := by
                rw [← eM]
                show _ = if tk ts k' = [43] then _ else if tk ts k' = [45] then _ else _
                rw [if_neg hp1, if_pos hm1]
              refine iteT ⟨_, rfl, R, dx8, _, rfl, hRR8, rfl, R, ts, k', _, rfl, hR8, at_tk hk3, fun H9 h9 b9 => ⟨rfl, _, rfl, ?_⟩⟩
              rw [decide_eq_true (p := V.str ⟨(tk ts k').toArray⟩ = V.str (Str.ofString "-")) (by rw [(tkEq sM).mpr hm1])]
              refine iteT ⟨1, rfl, ?_⟩
              exact ⟨k' + 1, -1, _, true, _, _, _, _, rfl, .inr rfl, h9, hS.go k' hk3 (by rw [hm1]; simp), b8.trans b9, hs8.butR hR8 b9, ndk2, by omega, by omega, by rw [if_pos rfl]; exact eM2⟩
            · rw [decide_eq_false hp1, decide_eq_false hm1, Bool.false_or]
              have eM2 : (.ok (addC cs c (partC (sg * n) pw)) k' : Res (List (List Nat × List Int))) = sumsM ts idx k := by
                rw [← eM]
                show _ = if tk ts k' = [43] then _ else if tk ts k' = [45] then _ else _
                rw [if_neg hp1, if_neg hm1]
              refine iteF ?_
              exact ⟨k', sg, _, false, _, _, _, _, rfl, hsg, hR8, hk3, b8, hs8, ndk2, by omega, by omega, by rw [if_neg Bool.false_ne_true]; exact eM2⟩
end

end K02

namespace K02
open PySem L2 SZ VR VX StX RT
/-! ### sizes in texts -/
theorem getC_addC (c d : List Nat) (xs : List Int) : ∀ cs : List (List Nat × List Int), (getC cs d).isSome = true → (getC (addC cs c xs) d).isSome = true
  | [], h => by cases h
  | (e, ys) :: r, h => by
    by_cases h1 : e = c
    · have g : addC ((e, ys) :: r) c xs = (e, trim (sumL ys xs)) :: r := by
        show (if e = c then _ else _) = _
        rw [if_pos h1]
      rw [g]
      show (if e = d then some _ else getC r d).isSome = true
      have h2 : (if e = d then some ys else getC r d).isSome = true := h
      split
      · rfl
      · rename_i n
        rw [if_neg n] at h2
        exact h2
    · have g : addC ((e, ys) :: r) c xs = (e, ys) :: addC r c xs := by
        show (if e = c then _ else _) = _
        rw [if_neg h1]
      rw [g]
      show (if e = d then some ys else getC (addC r c xs) d).isSome = true
      have h2 : (if e = d then some ys else getC r d).isSome = true := h
      split
      · rfl
      · rename_i n
        rw [if_neg n] at h2
        exact getC_addC c d xs r h2
theorem sumsLoop_ok {ts : List (List Nat × Nat)} {idx : Bool} : ∀ (f k : Nat) (sg : Int) (cs cs' : List (List Nat × List Int)) (k' : Nat), sumsLoop ts idx f k sg cs = .ok cs' k' → k < k' ∧ ∀ d, (getC cs d).isSome = true → (getC cs' d).isSome = true
  | 0, _, _, _, _, _, h => by cases h
  | f + 1, k, sg, cs, cs', k', h => by
    unfold sumsLoop at h
    cases hp : partM ts idx k with
    | syn p => rw [hp] at h; cases h
    | big w => rw [hp] at h; cases h
    | ok v j =>
      rw [hp] at h
      obtain ⟨g1, _⟩ := partM_ok hp
      have h : (if tk ts j = [43] then sumsLoop ts idx f (j + 1) 1 (addC cs v.2.2 (partC (sg * v.1) v.2.1)) else if tk ts j = [45] then sumsLoop ts idx f (j + 1) (-1) (addC cs v.2.2 (partC (sg * v.1) v.2.1)) else .ok (addC cs v.2.2 (partC (sg * v.1) v.2.1)) j) = .ok cs' k' := h
      split at h
      · obtain ⟨a, b⟩ := sumsLoop_ok f _ _ _ _ _ h
        exact ⟨by omega, fun d hd => b d (getC_addC _ _ _ _ hd)⟩
      · split at h
        · obtain ⟨a, b⟩ := sumsLoop_ok f _ _ _ _ _ h
          exact ⟨by omega, fun d hd => b d (getC_addC _ _ _ _ hd)⟩
        · cases h
          exact ⟨g1, fun d hd => getC_addC _ _ _ _ hd⟩
theorem sumsM_ok {ts : List (List Nat × Nat)} {idx : Bool} {k k' : Nat} {cs : List (List Nat × List Int)} (h : sumsM ts idx k = .ok cs k') : k < k' ∧ (getC cs []).isSome = true := by
  unfold sumsM at h
  split at h
  · obtain ⟨a, b⟩ := sumsLoop_ok _ _ _ _ _ _ h
    exact ⟨by omega, b [] rfl⟩
  · obtain ⟨a, b⟩ := sumsLoop_ok _ _ _ _ _ _ h
    exact ⟨a, b [] rfl⟩
def sizeM (ts : List (List Nat × Nat)) (k : Nat) : Res (List Int) := match sumsM ts false k with
  | .ok cs k' => .ok ((getC cs []).getD []) k'
  | .syn p => .syn p
  | .big w => .big w
theorem sizeM_gt {ts : List (List Nat × Nat)} {k k' : Nat} {xs : List Int} (h : sizeM ts k = .ok xs k') : k < k' := by
  unfold sizeM at h
  cases e : sumsM ts false k with
  | ok cs j =>
    rw [e] at h
    cases h
    exact (sumsM_ok e).1
  | syn p => rw [e] at h; cases h
  | big w => rw [e] at h; cases h
def spSizeP (K : PySem.W.Frag) (C CS CT : Addr) : Sp := fun vs H Q E => ∃ (R : Addr) (ts : List (List Nat × Nat)) (k : Nat), vs = [.ref R] ∧ RdAt C H R ts k ∧ k < ts.length ∧ Snt ts ∧
  Ends' C CS CT R H ts (fun v H' x => ∃ t : Addr, x = .ref t ∧ SqT K H' t (iz v)) (sizeM ts k) Q E
section
variable {P : Program} {w : World} {K : PySem.W.Frag} {mg : Str → Option Value} {base : Heap} {C CS CT CZ : Addr}
theorem ok_size {f fS g p : Addr} {fd dS dG : FuncData} (F : Fun K "_size" "_size" S_size f fd) (GS : FnOk P w K mg base (L2.CX P w) 6 fS dS ["reader", "in_index"] (spSums K C CS CT CZ)) (kS : PySem.W.keepIn K (.ref fS) = true) (bS : Binds K dS ["reader", "in_index"] []) (gS : mg "_sums" = some (.ref fS))
    (hp : PropOf K CZ "coefficients" p g) (cl : Cls K CZ) (GG : FnOk P w K mg base CX0 1 g dG ["self"] (spGet K CZ)) (bG : Binds K dG ["self"] []) : FnOk P w K mg base (L2.CX P w) 7 f fd ["reader"] (spSizeP K C CS CT) := by
  refine F.okX sc_size (fun vs H Q E h => ?_) (fun cdv A outer s H vs Q E hr h => ?_)
  · obtain ⟨R, ts, k, rfl, _⟩ := h; rfl
  · obtain ⟨R, ts, k, rfl, hRd, hkl, hS, q⟩ := h
    have hr2 : Room 2 _ := hr.mono (by decide)
    refine ⟨_, pss_one (ps_ret (pe_prop (pe_dget (hu_of hr) (pe_call GS hr (by rfl) gS kS bS .nil (passes_call (takes_of rfl rfl rfl rfl) (fun _ _ _ _ h => h)) (pa_cons (pv 0) (pa_cons pe_bl pa_nil))) pe_str (fun _ _ => rfl)) cl hp GG hr2 bG .nil pass0 rfl)), ?_⟩
    refine ⟨_, rfl, R, ts, k, false, rfl, hRd, hkl, hS, ?_⟩
    unfold sizeM at q
    cases hm : sumsM ts false k with
    | syn p => rw [hm] at q; exact q
    | big w => rw [hm] at q; exact q
    | ok cs k' =>
      rw [hm] at q
      rintro x H1 h1 hk1 b1 ⟨d, rfl, kvs, hd, P1⟩
      have s0 : Str.ofString "" = (⟨([] : List Nat).toArray⟩ : Str) := by decide +kernel
      rcases sum_get [] P1 with ⟨g1, _⟩ | ⟨ys, a, g1, g2, g3, g4⟩
      · have := (sumsM_ok hm).2
        rw [g1] at this
        cases this
      · obtain ⟨dz, tz, ha, _⟩ := id g3
        refine ⟨d, .ref a, rfl, ?_, ?_⟩
        · have := DGet.k (k := .inr ⟨([] : List Nat).toArray⟩) hd
          rw [g2] at this
          rw [s0]
          exact this
        · refine ⟨a, dz, _, rfl, ha, a, ys, rfl, g3, fun t ht => ?_⟩
          have q := q (.ref t) H1 h1 hk1 b1 ⟨t, rfl, by rw [g1]; exact ht⟩
          exact q
end

end K02

namespace K02
open PySem L2 SZ VR VX StX RT
/-! ### indexes in texts -/
/-- the factors of these counters, in this order -/
def facs (cs : List (List Nat × List Int)) (ys : List (List Nat)) : List (List Nat × List Int) := ys.filterMap fun c => if c ≠ [] ∧ (getC cs c).getD [] ≠ [] then some (c, (getC cs c).getD []) else none
/-- all but the list at fl is kept -/
def ButL (fl : Addr) (H H' : Hp) : Prop := ∀ b o, H b = some o → b ≠ fl → H' b = some o
/-- a pair (counter, parts) -/
def FacAt (K : PySem.W.Frag) (H : Hp) (v : V) (p : List Nat × List Int) : Prop := ∃ a t : Addr, v = .ref a ∧ H a = some (.tup [.str ⟨p.1.toArray⟩, .ref t]) ∧ SqT K H t (iz p.2)
theorem FacAt.same {K : PySem.W.Frag} {H H' : Hp} {v : V} {p : List Nat × List Int} (h : FacAt K H v p) (s : Same H H') : FacAt K H' v p := let ⟨a, t, e, h1, h2⟩ := h; ⟨a, t, e, s _ _ h1, s.tup h2⟩
theorem SqT.butL {K : PySem.W.Frag} {H H' : Hp} {fl t : Addr} {vs xs : List V} (hf : H fl = some (.lst vs)) (b : ButL fl H H') (h : SqT K H t xs) : SqT K H' t xs := by
  rcases h with (h | ⟨o, h⟩) | h
  · exact .inl (.inl (b _ _ h (fun z => by rw [z, hf] at h; cases h)))
  · exact .inl (.inr ⟨o, b _ _ h (fun z => by rw [z, hf] at h; cases h)⟩)
  · exact .inr h
theorem FacAt.butL {K : PySem.W.Frag} {H H' : Hp} {fl : Addr} {vs : List V} {v : V} {p : List Nat × List Int} (hf : H fl = some (.lst vs)) (b : ButL fl H H') (h : FacAt K H v p) : FacAt K H' v p := by
  obtain ⟨a, t, e, h1, h2⟩ := h
  exact ⟨a, t, e, b _ _ h1 (fun z => by rw [z, hf] at h1; cases h1), SqT.butL hf b h2⟩
theorem SumAt.butL {K : PySem.W.Frag} {CZ d fl : Addr} {H H' : Hp} {vs : List V} {cs : List (List Nat × List Int)} (hf : H fl = some (.lst vs)) (b : ButL fl H H') (h : SumAt K CZ H d cs) : SumAt K CZ H' d cs := by
  obtain ⟨kvs, h1, h2⟩ := h
  refine ⟨kvs, b _ _ h1 (fun z => by rw [z, hf] at h1; cases h1), L2.Paired.mapP h2 fun kv p ⟨e, a, ea, ⟨dz, t, hz1, hz2⟩, hl⟩ => ⟨e, a, ea, ⟨dz, t, b _ _ hz1 (fun z => by rw [z, hf] at hz1; cases hz1), SqT.butL hf b hz2⟩, hl⟩⟩
theorem RdAt.butL {C R fl : Addr} {H H' : Hp} {vs : List V} {ts : List (List Nat × Nat)} {k : Nat} (hf : H fl = some (.lst vs)) (hn : ∀ dx l, H R = some (.ins C dx [("_tokens", .ref l), ("_at", .int (k : Int))]) → l ≠ fl) (b : ButL fl H H') (h : RdAt C H R ts k) : RdAt C H' R ts k := by
  obtain ⟨dx, l, h1, h2, vs2, h3, h4⟩ := h
  exact ⟨dx, l, b _ _ h1 (fun z => by rw [z, hf] at h1; cases h1), b _ _ h2 (fun z => by rw [z, hf] at h2; cases h2), vs2, b _ _ h3 (hn dx l h1), L2.Paired.mapP h4 fun v t ⟨p, e, hp⟩ => ⟨p, e, b _ _ hp (fun z => by rw [z, hf] at hp; cases hp)⟩⟩
theorem sum_keys {K : PySem.W.Frag} {CZ : Addr} {H : Hp} : ∀ {kvs : List (Key × V)} {cs : List (List Nat × List Int)}, Paired (fun kv p => kv.1 = .inr ⟨p.1.toArray⟩ ∧ ∃ a, kv.2 = .ref a ∧ SzAt K CZ H a p.2 ∧ p.2.length ≤ 4) kvs cs →
    kvs.map (fun kv => kV kv.1) = (cs.map fun p => (⟨p.1.toArray⟩ : Str)).map V.str
  | _, _, .nil => rfl
  | _, _, .cons ⟨e, _⟩ r => by
    rw [List.map_cons, List.map_cons, List.map_cons, sum_keys r, e]
    rfl
theorem getC_mem {cs : List (List Nat × List Int)} {c : List Nat} (h : c ∈ cs.map (·.1)) : (getC cs c).isSome = true := by
  induction cs with
  | nil => cases h
  | cons p r ih =>
    obtain ⟨d, ys⟩ := p
    show (if d = c then some ys else getC r c).isSome = true
    split
    · rfl
    · rename_i n
      rw [List.map_cons] at h
      rcases List.mem_cons.mp h with z | z
      · exact absurd z.symm n
      · exact ih z
/-- what `_index` tells: the parts without a counter, the factors in the counters' order -/
def IdxOk (K : PySem.W.Frag) (cs : List (List Nat × List Int)) (H : Hp) (x : V) : Prop := ∃ (q t f : Addr) (ys : List (List Nat)) (vs : List V), x = .ref q ∧ H q = some (.tup [.ref t, .ref f]) ∧ SqT K H t (iz ((getC cs []).getD [])) ∧
  SqT K H f vs ∧ Paired (FacAt K H) vs (facs cs ys) ∧ ys.Perm (cs.map (·.1)) ∧ PyProof.Rows.sortedS (ys.map fun c => (⟨c.toArray⟩ : Str)) = true
def spIndex (K : PySem.W.Frag) (C CS CT : Addr) : Sp := fun vs H Q E => ∃ (R : Addr) (ts : List (List Nat × Nat)) (k : Nat), vs = [.ref R] ∧ RdAt C H R ts k ∧ k < ts.length ∧ Snt ts ∧ (∀ cs k', sumsM ts true k = .ok cs k' → cs.length < 64) ∧
  Ends' C CS CT R H ts (fun cs H' x => IdxOk K cs H' x) (sumsM ts true k) Q E

end K02

namespace K02
open PySem L2 SZ VR VX StX RT
section
variable {P : Program} {w : World} {K : PySem.W.Frag} {mg : Str → Option Value} {base : Heap} {C CS CT CZ : Addr}
theorem facs_snoc (cs : List (List Nat × List Int)) (ys : List (List Nat)) (c : List Nat) : facs cs (ys ++ [c]) = facs cs ys ++ (if c ≠ [] ∧ (getC cs c).getD [] ≠ [] then [(c, (getC cs c).getD [])] else []) := by
  unfold facs
  rw [List.filterMap_append]
  congr 1
  by_cases h : c ≠ [] ∧ (getC cs c).getD [] ≠ []
  · rw [List.filterMap_cons, if_pos h, if_pos h]; rfl
  · rw [List.filterMap_cons, if_neg h, if_neg h]; rfl
theorem facs_len (cs : List (List Nat × List Int)) (ys : List (List Nat)) : (facs cs ys).length ≤ ys.length := List.length_filterMap_le _ _
theorem ok_index {f fS g p : Addr} {fd dS dG : FuncData} (F : Fun K "_index" "_index" S_index f fd) (GS : FnOk P w K mg base (L2.CX P w) 6 fS dS ["reader", "in_index"] (spSums K C CS CT CZ)) (kS : PySem.W.keepIn K (.ref fS) = true) (bS : Binds K dS ["reader", "in_index"] []) (gS : mg "_sums" = some (.ref fS))
    (hp : PropOf K CZ "coefficients" p g) (cl : Cls K CZ) (GG : FnOk P w K mg base CX0 1 g dG ["self"] (spGet K CZ)) (bG : Binds K dG ["self"] []) (hso : mg "sorted" = none) (hli : mg "list" = none) (htu : mg "tuple" = none) : FnOk P w K mg base (L2.CX P w) 7 f fd ["reader"] (spIndex K C CS CT) := by
  refine F.okX sc_index (fun vs H Q E h => ?_) (fun cdv A outer s H vs Q E hr h => ?_)
  · obtain ⟨R, ts, k, rfl, _⟩ := h; rfl
  · obtain ⟨R, ts, k, rfl, hRd, hkl, hS, h64, q⟩ := h
    have hr2 : Room 2 _ := hr.mono (by decide)
    refine ⟨_, pss_cons (ps_set (i := 1) sc_index.nd rfl (Or.inl rfl) (pe_call GS hr (by rfl) gS kS bS .nil (passes_call (takes_of rfl rfl rfl rfl) (fun _ _ _ _ h => h)) (pa_cons (pv 0) (pa_cons pe_bl pa_nil))))
      (pss_cons (ps_set (i := 2) sc_index.nd rfl (Or.inl rfl) (pe_lst pa_nil))
      (pss_cons (ps_for (passes_of rfl) rfl (pi_list (pe_callB cr_sortedS (by rfl) hso (by decide +kernel) (pa_cons (pe_callTy (call_listD rfl) (by rfl) hli (by decide +kernel) (pa_cons (pv 1) pa_nil)) pa_nil))) (pg_name (i := 3) sc_index.nd rfl (Or.inl rfl))
        (pss_cons (ps_set (i := 4) sc_index.nd rfl (Or.inl rfl) (pe_prop (pe_dget (hu_of hr) (pv 1) (pv 3) (fun _ _ => rfl)) cl hp GG hr2 bG .nil pass0 rfl))
        (pss_one (ps_if (PW.pt (pw_and (pt_cmpR op_ne (pv 3) pe_str (nomark _)) (pw_and1 (pt_cmpR (op_neD hr.units) (pv 4) (pe_tup pa_nil) (nomark _)))))
          (pss_one (ps_expr (pe_bm PySem.F.plainAttrs_list PySem.F.slot_list_append PySem.F.type_list_append mt_append (pv 2) (pa_cons (pe_tup (pa_cons (pv 3) (pa_cons (pv 4) pa_nil))) pa_nil)))) pss_nil))))
      (pss_one (ps_ret (pe_tup (pa_cons (pe_prop (pe_dget (hu_of hr) (pv 1) pe_str (fun _ _ => rfl)) cl hp GG hr2 bG .nil pass0 rfl) (pa_cons (pe_callTy call_tuple_of (by rfl) htu (by decide +kernel) (pa_cons (pv 2) pa_nil)) pa_nil))))))), ?_⟩
    refine ⟨_, rfl, R, ts, k, true, rfl, hRd, hkl, hS, ?_⟩
    cases hm : sumsM ts true k with
    | syn p => rw [hm] at q; exact q
    | big w => rw [hm] at q; exact q
    | ok cs k' =>
      rw [hm] at q
      have hc64 := h64 cs k' hm
      have hc0 := (sumsM_ok hm).2
      rintro x H1 h1 hk1 b1 ⟨d, rfl, hs⟩
      refine ⟨Nat.zero_le _, fun fl hfl => ?_⟩
      have hs2 := hs.same (Same.new (o := .lst []) hfl)
      obtain ⟨kvs, hd, P1⟩ := id hs2
      have s0 : Str.ofString "" = (⟨([] : List Nat).toArray⟩ : Str) := by decide +kernel
      refine ⟨_, rfl, d, kvs, rfl, .inl hd, fun pl hpl => ⟨pl, cs.map fun p => (⟨p.1.toArray⟩ : Str), rfl, ?_, by rw [List.length_map]; exact hc64, fun ysS ps hperm hsort hps => ⟨ps, rfl, ⟨_, .of upd_same⟩, ?_⟩⟩⟩
      · rw [sum_keys P1]
        exact .of upd_same
      have S0 : Same H1 (upd (upd (upd H1 fl (.lst [])) pl (.lst (kvs.map fun kv => kV kv.1))) ps (.lst (ysS.map V.str))) := ((Same.new hfl).upN hpl).upN hps
      have F0 := (Same.new (o := .lst (ysS.map V.str)) hps) _ _ ((Same.new (o := .lst (kvs.map fun kv => kV kv.1)) hpl) _ _ (upd_same (H := H1) (a := fl) (o := .lst [])))
      have nps : ps ≠ fl := (ne_of_none ((Same.new (o := .lst (kvs.map fun kv => kV kv.1)) hpl) _ _ (upd_same (H := H1) (a := fl) (o := .lst []))) hps).symm
      have L0 := upd_same (H := upd (upd H1 fl (.lst [])) pl (.lst (kvs.map fun kv => kV kv.1))) (a := ps) (o := .lst (ysS.map V.str))
      generalize upd (upd (upd H1 fl (.lst [])) pl (.lst (kvs.map fun kv => kV kv.1))) ps (.lst (ysS.map V.str)) = Hs at S0 F0 L0
      obtain ⟨ys, eY⟩ : ∃ ys : List (List Nat), ysS = ys.map fun c => (⟨c.toArray⟩ : Str) := ⟨ysS.map fun z => z.cps.toList, by rw [List.map_map]; exact (List.map_id _).symm.trans (List.map_congr_left fun z _ => rfl)⟩
      have hpy : ys.Perm (cs.map (·.1)) := by
        have h2 := hperm.map (fun z : Str => z.cps.toList)
        rw [eY, List.map_map, List.map_map] at h2
        have e1 : ys.map ((fun z : Str => z.cps.toList) ∘ fun c => (⟨c.toArray⟩ : Str)) = ys := (List.map_congr_left (g := id) fun _ _ => rfl).trans (List.map_id ys)
        rw [e1] at h2
        exact h2
      have hylen : ys.length < 64 := by rw [hpy.length_eq, List.length_map]; exact hc64
      subst eY
      refine for_list (xs := (ys.map fun c => (⟨c.toArray⟩ : Str)).map V.str) (fun i σ H' => ∃ (v3 v4 : Option V) (vsf : List V), σ = [some (.ref R), some (.ref d), some (.ref fl), v3, v4] ∧ Same H1 H' ∧ H' fl = some (.lst vsf) ∧ H' ps = some (.lst ((ys.map fun c => (⟨c.toArray⟩ : Str)).map V.str)) ∧ Paired (FacAt K H') vsf (facs cs (ys.take i)))
        ⟨none, none, [], rfl, S0, F0, L0, .nil⟩ (fun i σ H' _ ⟨_, _, _, _, _, _, h, _⟩ => .of h) ?_ ?_
      · rintro i v σ H' hx ⟨v3, v4, vsf, rfl, sH, hf, hl, Pf⟩
        have hcx : ∃ c, ys[i]? = some c ∧ v = .str ⟨c.toArray⟩ := by
          rw [List.getElem?_map, List.getElem?_map] at hx
          cases e : ys[i]? with
          | none => rw [e] at hx; cases hx
          | some c => rw [e] at hx; exact ⟨c, rfl, (Option.some.inj hx).symm⟩
        obtain ⟨c, hci, rfl⟩ := hcx
        have hmem : c ∈ cs.map (·.1) := hpy.subset (List.mem_of_getElem? hci)
        have et : ys.take (i + 1) = ys.take i ++ [c] := by rw [List.take_add_one, hci]; rfl
        obtain ⟨kv', hd', P'⟩ := hs.same sH
        rcases sum_get c P' with ⟨g1, _⟩ | ⟨yy, a, g1, g2, g3, g4⟩
        · have := getC_mem hmem
          rw [g1] at this
          cases this
        obtain ⟨dz, tz, ha, _⟩ := id g3
        have dg := DGet.k (k := .inr ⟨c.toArray⟩) hd'
        rw [g2] at dg
        have eg : (getC cs c).getD [] = yy := by rw [g1]; rfl
        refine ⟨_, rfl, _, rfl, d, .ref a, rfl, dg, a, dz, _, rfl, ha, a, yy, rfl, g3, fun t ht => ?_⟩
        have dz0 : decide (V.str ⟨c.toArray⟩ = V.str (Str.ofString "")) = decide (c = []) := by
          rw [s0]
          refine decide_eq_decide.mpr ⟨fun z => ?_, fun z => by rw [z]⟩
          have z := V.str.inj z
          injection z with z
          simpa using z
        refine ⟨_, rfl, rfl, _, rfl, ?_⟩
        rw [dz0]
        by_cases hc : c = []
        · rw [decide_eq_true hc]
          refine iteF (iteF ?_)
          exact ⟨_, _, vsf, rfl, sH, hf, hl, by rw [et, facs_snoc, if_neg (fun z => z.1 hc), List.append_nil]; exact Pf⟩
        · rw [decide_eq_false hc]
          refine iteT ⟨_, rfl, Nat.zero_le _, fun e0 he0 => ⟨dI yy, dI [], dp_ints ((Same.new he0).tup ht), dp_ints (.of upd_same), shaped_ints _, shaped_ints _, _, rfl, ?_⟩⟩
          rw [eqv_ints]
          have sE := Same.new (o := .tup []) he0
          by_cases hy : yy = []
          · rw [decide_eq_true hy]
            refine iteF ?_
            exact ⟨_, _, vsf, rfl, sH.trans sE, sE _ _ hf, sE _ _ hl, by rw [et, facs_snoc, if_neg (fun z => z.2 (eg.trans hy)), List.append_nil]; exact L2.Paired.mapP Pf fun _ _ h => h.same sE⟩
          · rw [decide_eq_false hy]
            refine iteT ?_
            refine ⟨_, rfl, .inl ⟨rfl, _, .of (sE _ _ hf)⟩, _, rfl, _, rfl, lenS (by simp), fun pa hpa => ?_⟩
            have sP := sE.trans (Same.new (o := .tup [.str ⟨c.toArray⟩, .ref t]) hpa)
            have hf2 := sP _ _ hf
            have lv : vsf.length = (facs cs (ys.take i)).length := Pf.length
            have lf := facs_len cs (ys.take i)
            have lt : (ys.take i).length ≤ ys.length := by rw [List.length_take]; omega
            refine ⟨fl, vsf, .ref pa, rfl, rfl, hf2, Nat.lt_of_le_of_lt (show vsf.length ≤ 50000 by omega) (by decide), ?_⟩
            have npa : pa ≠ fl := (ne_of_none (sE _ _ hf) hpa).symm
            have bL : ButL fl (upd (upd H' e0 (.tup [])) pa (.tup [.str ⟨c.toArray⟩, .ref t])) (upd (upd (upd H' e0 (.tup [])) pa (.tup [.str ⟨c.toArray⟩, .ref t])) fl (.lst (vsf ++ [.ref pa]))) := fun b o e n => by rw [upd_ne n]; exact e
            refine ⟨_, _, _, rfl, (sH.trans sP).upd0 hfl, upd_same, bL _ _ (sP _ _ hl) nps, ?_⟩
            rw [et, facs_snoc, if_pos ⟨hc, by rw [eg]; exact hy⟩, eg]
            refine (L2.Paired.mapP Pf fun _ _ h => (h.same sP).butL hf2 bL).snoc ⟨pa, t, rfl, ?_, SqT.butL hf2 bL (sP.tup ht)⟩
            rw [upd_ne npa, upd_same]
      · rintro σ H' ⟨v3, v4, vsf, rfl, sH, hf, hl, Pf⟩
        rw [List.length_map, List.length_map, List.take_length] at Pf
        obtain ⟨kv', hd', P'⟩ := hs.same sH
        rcases sum_get [] P' with ⟨g1, _⟩ | ⟨yy, a, g1, g2, g3, g4⟩
        · rw [g1] at hc0
          cases hc0
        obtain ⟨dz, tz, ha, _⟩ := id g3
        have dg := DGet.k (k := .inr ⟨([] : List Nat).toArray⟩) hd'
        rw [g2] at dg
        have eg : (getC cs []).getD [] = yy := by rw [g1]; rfl
        refine ⟨_, rfl, d, .ref a, rfl, by rw [s0]; exact dg, a, dz, _, rfl, ha, a, yy, rfl, g3, fun t ht => ?_⟩
        refine ⟨_, rfl, fl, vsf, rfl, .inl ⟨.of hf, fun ft hft => ⟨lenS (by simp), fun qp hqp => ?_⟩⟩⟩
        have sF := (Same.new (o := .tup vsf) hft).trans (Same.new (o := .tup [.ref t, .ref ft]) hqp)
        refine q (.ref qp) _ (h1.same (sH.trans sF)) hk1 (b1.trans (ButR.of (sH.trans sF))) ⟨qp, t, ft, ys, vsf, rfl, upd_same, sF.tup (by rw [eg]; exact ht), (Same.new hqp).tup (.of upd_same), L2.Paired.mapP Pf fun _ _ h => h.same sF, hpy, hsort⟩
end

end K02

namespace K02
open PySem L2 SZ VR VX StX RT
/-! ### statements and blocks -/
mutual
inductive Stm where
  | flush
  | acc (w a : List Nat) (cs : List (List Nat × List Int))
  | loop (c : List Nat) (sz : List Int) (b : Blk)
inductive Blk where
  | nil
  | snoc (p : Blk) (s : Stm)
end
mutual
def StOk (K : PySem.W.Frag) (H : Hp) : Stm → V → Prop
  | .flush, x => ∃ t : Addr, x = .ref t ∧ H t = some (.tup [.str ⟨[102, 108, 117, 115, 104].toArray⟩])
  | .acc w a cs, x => ∃ t i : Addr, x = .ref t ∧ H t = some (.tup [.str ⟨w.toArray⟩, .str ⟨a.toArray⟩, .ref i]) ∧ IdxOk K cs H (.ref i)
  | .loop c sz b, x => ∃ (t z tb : Addr) (vs : List V), x = .ref t ∧ H t = some (.tup [.str (Str.ofString "for"), .str ⟨c.toArray⟩, .ref z, .ref tb]) ∧ SqT K H z (iz sz) ∧ SqT K H tb vs ∧ BkOk K H b vs
def BkOk (K : PySem.W.Frag) (H : Hp) : Blk → List V → Prop
  | .nil, vs => vs = []
  | .snoc p s, vs => ∃ (v0 : List V) (x : V), vs = v0 ++ [x] ∧ StOk K H s x ∧ BkOk K H p v0
end
/-- tuples are kept -/
def KpT (H H' : Hp) : Prop := ∀ b o, H b = some o → ((∃ xs, o = .tup xs) ∨ ∃ u v, o = .frz u v) → H' b = some o
theorem SqT.kp {K : PySem.W.Frag} {H H' : Hp} {t : Addr} {xs : List V} (s : KpT H H') (h : SqT K H t xs) : SqT K H' t xs := by
  rcases h with (h | ⟨o, h⟩) | h
  · exact .inl (.inl (s _ _ h (.inl ⟨_, rfl⟩)))
  · exact .inl (.inr ⟨o, s _ _ h (.inr ⟨_, _, rfl⟩)⟩)
  · exact .inr h
theorem FacAt.kp {K : PySem.W.Frag} {H H' : Hp} {v : V} {p : List Nat × List Int} (s : KpT H H') (h : FacAt K H v p) : FacAt K H' v p := let ⟨a, t, e, h1, h2⟩ := h; ⟨a, t, e, s _ _ h1 (.inl ⟨_, rfl⟩), SqT.kp s h2⟩
theorem IdxOk.kp {K : PySem.W.Frag} {cs : List (List Nat × List Int)} {H H' : Hp} {x : V} (s : KpT H H') (h : IdxOk K cs H x) : IdxOk K cs H' x :=
  let ⟨q, t, f, ys, vs, e, h1, h2, h3, h4, h5, h6⟩ := h
  ⟨q, t, f, ys, vs, e, s _ _ h1 (.inl ⟨_, rfl⟩), SqT.kp s h2, SqT.kp s h3, L2.Paired.mapP h4 fun _ _ z => FacAt.kp s z, h5, h6⟩
mutual
theorem StOk.kp {K : PySem.W.Frag} {H H' : Hp} (s : KpT H H') : ∀ (st : Stm) (x : V), StOk K H st x → StOk K H' st x
  | .flush, _, h => by
    simp only [StOk] at h ⊢
    obtain ⟨t, e, h⟩ := h
    exact ⟨t, e, s _ _ h (.inl ⟨_, rfl⟩)⟩
  | .acc w a cs, _, h => by
    simp only [StOk] at h ⊢
    obtain ⟨t, i, e, h, hi⟩ := h
    exact ⟨t, i, e, s _ _ h (.inl ⟨_, rfl⟩), hi.kp s⟩
  | .loop c sz b, _, h => by
    simp only [StOk] at h ⊢
    obtain ⟨t, z, tb, vs, e, h, hz, hb, hk⟩ := h
    exact ⟨t, z, tb, vs, e, s _ _ h (.inl ⟨_, rfl⟩), SqT.kp s hz, SqT.kp s hb, BkOk.kp s b vs hk⟩
theorem BkOk.kp {K : PySem.W.Frag} {H H' : Hp} (s : KpT H H') : ∀ (b : Blk) (vs : List V), BkOk K H b vs → BkOk K H' b vs
  | .nil, _, h => by
    simp only [BkOk] at h ⊢
    exact h
  | .snoc p st, _, h => by
    simp only [BkOk] at h ⊢
    obtain ⟨v0, x, e, hs, hp⟩ := h
    exact ⟨v0, x, e, StOk.kp s st x hs, BkOk.kp s p v0 hp⟩
end
theorem ButR.kp {C R dx : Addr} {fs : List (Str × V)} {H H' : Hp} (hR : H R = some (.ins C dx fs)) (b : ButR R H H') : KpT H H' := fun c o e z => b c o e (fun n => by
  rw [n, hR] at e
  rcases z with ⟨xs, rfl⟩ | ⟨u, v, rfl⟩ <;> cases e)
theorem updL.kp {l : Addr} {vs : List V} {o : HO} {H : Hp} (hl : H l = some (.lst vs)) : KpT H (upd H l o) := fun c o' e z => by
  rw [upd_ne (fun n => by
    rw [n, hl] at e
    rcases z with ⟨xs, rfl⟩ | ⟨u, v, rfl⟩ <;> cases e)]
  exact e
theorem Same.kp {H H' : Hp} (s : Same H H') : KpT H H' := fun c o e _ => s c o e
theorem StOk.tup {K : PySem.W.Frag} {H : Hp} : ∀ (s : Stm) (x : V), StOk K H s x → ∃ (t : Addr) (us : List V), x = .ref t ∧ H t = some (.tup us) ∧ us.length ≠ 2
  | .flush, _, h => by
    simp only [StOk] at h
    obtain ⟨t, e, h⟩ := h
    exact ⟨t, _, e, h, by simp⟩
  | .acc w a cs, _, h => by
    simp only [StOk] at h
    obtain ⟨t, i, e, h, _⟩ := h
    exact ⟨t, _, e, h, by simp⟩
  | .loop c sz b, _, h => by
    simp only [StOk] at h
    obtain ⟨t, z, tb, vs, e, h, _⟩ := h
    exact ⟨t, _, e, h, by simp⟩
theorem BkOk.far {K : PySem.W.Frag} {H : Hp} : ∀ (b : Blk) (vs : List V), BkOk K H b vs → ∀ x ∈ vs, ∀ t : List Nat × Nat, ¬ TokAt H x t
  | .nil, vs, h => by
    simp only [BkOk] at h
    subst h
    intro x hx
    cases hx
  | .snoc p s, vs, h => by
    simp only [BkOk] at h
    obtain ⟨v0, y, rfl, hs, hp⟩ := h
    intro x hx t ht
    rcases List.mem_append.mp hx with hx | hx
    · exact BkOk.far p v0 hp x hx t ht
    · obtain rfl := List.mem_singleton.mp hx
      obtain ⟨a, us, rfl, ha, hn⟩ := StOk.tup s x hs
      obtain ⟨b, eb, hb⟩ := ht
      cases eb
      rw [ha] at hb
      have hb := Option.some.inj hb
      injection hb with hb
      rw [hb] at hn
      exact hn rfl
/-- a list that holds no tokens is another one than the reader's -/
theorem RdAt.updL {C R l : Addr} {H : Hp} {ts : List (List Nat × Nat)} {k : Nat} {vs : List V} {o : HO} (h : RdAt C H R ts k) (hk : k < ts.length) (e : H l = some (.lst vs)) (far : ∀ x ∈ vs, ∀ t : List Nat × Nat, ¬ TokAt H x t) : RdAt C (upd H l o) R ts k := by
  obtain ⟨dx, tl, h1, h2, ws, h3, h4⟩ := h
  have ne : tl ≠ l := fun n => by
    rw [n, e] at h3
    have h3 := Option.some.inj h3
    injection h3 with h3
    subst h3
    obtain ⟨x, hx, f⟩ := Paired.at' h4 (at_tk hk)
    exact far x (List.mem_of_getElem? hx) _ f
  have k1 : ∀ {b : Addr} {u : HO}, H b = some u → (∀ ys, u ≠ .lst ys) → b ≠ l := fun {b u} hb n z => by
    rw [z, e] at hb
    exact n _ (Option.some.inj hb).symm
  exact ⟨dx, tl, by rw [upd_ne (k1 h1 fun _ => by simp)]; exact h1, by rw [upd_ne (k1 h2 fun _ => by simp)]; exact h2, ws, by rw [upd_ne ne]; exact h3,
    L2.Paired.mapP h4 fun v t ⟨p, e1, e2⟩ => ⟨p, e1, by rw [upd_ne (k1 e2 fun _ => by simp)]; exact e2⟩⟩
def Res.bind {α β : Type} (r : Res α) (g : α → Nat → Res β) : Res β := match r with
  | .ok v k => g v k
  | .syn p => .syn p
  | .big w => .big w
abbrev tFLUSH : List Nat := [102, 108, 117, 115, 104]
abbrev tFOR : List Nat := [102, 111, 114]
abbrev tREAD : List Nat := [114, 101, 97, 100]
abbrev tWRITE : List Nat := [119, 114, 105, 116, 101]
abbrev tARRAY : List Nat := [97, 114, 114, 97, 121]
abbrev STs : List (List Nat) := [tFOR, tREAD, tWRITE, tFLUSH]
/-- behind the word for; blk reads a block -/
def loopM (ts : List (List Nat × Nat)) (blk : Nat → Nat → Res Blk) (L k : Nat) : Res Stm :=
  if isNmL (tk ts k) = true then (sizeM ts (k + 1)).bind fun sz j =>
    if tk ts j = [123] then (if 5 ≤ L then .big "nesting" else (blk (L + 1) (j + 1)).bind fun b i => if tk ts i = [125] then .ok (.loop (tk ts k) sz b) (i + 1) else .syn (ps ts i)) else .syn (ps ts j)
  else .syn (ps ts k)
/-- at a word of a statement -/
def stmM (ts : List (List Nat × Nat)) (blk : Nat → Nat → Res Blk) (L k : Nat) : Res Stm :=
  if tk ts k = tFLUSH then .ok .flush (k + 1) else if tk ts k = tFOR then loopM ts blk L (k + 1)
  else if isNmL (tk ts (k + 1)) = true then (if tk ts (k + 2) = [91] then (sumsM ts true (k + 3)).bind fun cs j => if tk ts j = [93] then .ok (.acc (tk ts k) (tk ts (k + 1)) cs) (j + 1) else .syn (ps ts j) else .syn (ps ts (k + 2)))
  else .syn (ps ts (k + 1))
def blockM (ts : List (List Nat × Nat)) : Nat → Nat → Nat → Blk → Res Blk
  | 0, _, _, _ => .syn 0
  | f + 1, L, k, acc => if tk ts k ∈ STs then (stmM ts (fun L' k' => blockM ts f L' k' .nil) L k).bind fun s j => blockM ts f L j (.snoc acc s) else .ok acc k
theorem Res.bind_ok {α β : Type} {r : Res α} {g : α → Nat → Res β} {v : β} {k : Nat} (h : r.bind g = .ok v k) : ∃ u j, r = .ok u j ∧ g u j = .ok v k := by
  cases r with
  | ok u j => exact ⟨u, j, rfl, h⟩
  | syn p => cases h
  | big w => cases h
theorem Ends'.but {α : Type} {C CS CT R : Addr} {H H1 : Hp} {ts : List (List Nat × Nat)} {val : α → Hp → V → Prop} {r : Res α} {Q : VK} {E : XK} (h : Ends' C CS CT R H ts val r Q E) (b : ButR R H H1) : Ends' C CS CT R H1 ts val r Q E := by
  cases r with
  | ok v k => exact fun x H' h1 hk b1 hv => h x H' h1 hk (b.trans b1) hv
  | syn p => exact Out.but h b
  | big w => exact OutW.but h b
theorem loopM_gt {ts : List (List Nat × Nat)} {blk : Nat → Nat → Res Blk} (hb : ∀ L k b j, blk L k = .ok b j → k ≤ j) {L k : Nat} {s : Stm} {j : Nat} (h : loopM ts blk L k = .ok s j) : k < j := by
  unfold loopM at h
  split at h
  · obtain ⟨sz, i, h1, h2⟩ := Res.bind_ok h
    have g1 := sizeM_gt h1
    split at h2
    · split at h2
      · cases h2
      · obtain ⟨b, i2, h3, h4⟩ := Res.bind_ok h2
        have g2 := hb _ _ _ _ h3
        split at h4
        · cases h4; omega
        · cases h4
    · cases h2
  · cases h
theorem stmM_gt {ts : List (List Nat × Nat)} {blk : Nat → Nat → Res Blk} (hb : ∀ L k b j, blk L k = .ok b j → k ≤ j) {L k : Nat} {s : Stm} {j : Nat} (h : stmM ts blk L k = .ok s j) : k < j := by
  unfold stmM at h
  split at h
  · cases h; omega
  · split at h
    · have := loopM_gt hb h
      omega
    · split at h
      · split at h
        · obtain ⟨cs, i, h1, h2⟩ := Res.bind_ok h
          have g1 := (sumsM_ok h1).1
          split at h2
          · cases h2; omega
          · cases h2
        · cases h
      · cases h
theorem blockM_ge (ts : List (List Nat × Nat)) : ∀ (f L k : Nat) (acc b : Blk) (j : Nat), blockM ts f L k acc = .ok b j → k ≤ j
  | 0, _, _, _, _, _, h => by cases h
  | f + 1, L, k, acc, b, j, h => by
    unfold blockM at h
    split at h
    · obtain ⟨s, i, h1, h2⟩ := Res.bind_ok h
      have g1 := stmM_gt (fun L' k' b' j' e => blockM_ge ts f L' k' .nil b' j' e) h1
      have g2 := blockM_ge ts f _ _ _ _ _ h2
      omega
    · cases h
      exact Nat.le_refl _

end K02

namespace K02
open PySem L2 SZ VR VX StX RT
/-! ### _loop, _statement, _block -/
/-- what they all read with -/
structure PsS (P : Program) (w : World) (K : PySem.W.Frag) (mg : Str → Option Value) (base : Heap) (C CS CT : Addr) : Prop where
  Y : RdS P w K mg base C CS CT
  only : ∃ f fd, Meth K C "pass_only" f ∧ Binds K fd ["self", "token"] [] ∧ FnOk P w K mg base (L2.CX P w) 3 f fd ["self", "token"] (spOnly C CS)
  size : ∃ f fd, mg "_size" = some (.ref f) ∧ PySem.W.keepIn K (.ref f) = true ∧ Binds K fd ["reader"] [] ∧ FnOk P w K mg base (L2.CX P w) 7 f fd ["reader"] (spSizeP K C CS CT)
  index : ∃ f fd, mg "_index" = some (.ref f) ∧ PySem.W.keepIn K (.ref f) = true ∧ Binds K fd ["reader"] [] ∧ FnOk P w K mg base (L2.CX P w) 7 f fd ["reader"] (spIndex K C CS CT)
  most : ∃ t, mg "_MOST_LOOPS" = some (.int 5 t)
  st : ∃ a, mg "_STATEMENTS" = some (.ref a) ∧ ∀ H, SqT K H a ((["for", "read", "write", "flush"] : List Str).map V.str)
  tup : mg "tuple" = none
/-- no index has 64 counters -/
def I64 (ts : List (List Nat × Nat)) : Prop := ∀ k cs k', sumsM ts true k = .ok cs k' → cs.length < 64
def blkF (ts : List (List Nat × Nat)) (f : Nat) : Nat → Nat → Res Blk := fun L k => blockM ts f L k .nil
def spBlock (K : PySem.W.Frag) (C CS CT : Addr) (L : Nat) : Sp := fun vs H Q E => ∃ (R : Addr) (ts : List (List Nat × Nat)) (k f : Nat), vs = [.ref R, .int (L : Int)] ∧ RdAt C H R ts k ∧ k < ts.length ∧ Snt ts ∧ I64 ts ∧ ts.length ≤ k + f ∧
  Ends' C CS CT R H ts (fun b H' x => ∃ (t : Addr) (us : List V), x = .ref t ∧ SqT K H' t us ∧ BkOk K H' b us) (blockM ts f L k .nil) Q E
def spStm (K : PySem.W.Frag) (C CS CT : Addr) (L : Nat) : Sp := fun vs H Q E => ∃ (R : Addr) (ts : List (List Nat × Nat)) (k f : Nat), vs = [.ref R, .int (L : Int)] ∧ RdAt C H R ts k ∧ k < ts.length ∧ Snt ts ∧ I64 ts ∧ ts.length ≤ k + 1 + f ∧ tk ts k ∈ STs ∧
  Ends' C CS CT R H ts (fun s H' x => StOk K H' s x) (stmM ts (blkF ts f) L k) Q E
def spLoop (K : PySem.W.Frag) (C CS CT : Addr) (L : Nat) : Sp := fun vs H Q E => ∃ (R : Addr) (ts : List (List Nat × Nat)) (k f : Nat), vs = [.ref R, .int (L : Int)] ∧ RdAt C H R ts k ∧ k < ts.length ∧ Snt ts ∧ I64 ts ∧ ts.length ≤ k + f ∧
  Ends' C CS CT R H ts (fun s H' x => StOk K H' s x) (loopM ts (blkF ts f) L k) Q E
theorem one_int (L : Nat) : V.int ((L : Int) + 1) = V.int ((L + 1 : Nat) : Int) := by congr 1
section
variable {P : Program} {w : World} {K : PySem.W.Frag} {mg : Str → Option Value} {base : Heap} {C CS CT : Addr}
theorem ok_loop {L kb : Nat} {spB : Sp} {f fB : Addr} {fd dB : FuncData} (F : Fun K "_loop" "_loop" S_loop f fd) (V' : PsS P w K mg base C CS CT) (GB : FnOk P w K mg base (L2.CX P w) kb fB dB ["reader", "loops"] spB) (kB : PySem.W.keepIn K (.ref fB) = true) (bB : Binds K dB ["reader", "loops"] []) (gB : mg "_block" = some (.ref fB))
    (hB : L < 5 → spB = spBlock K C CS CT (L + 1)) (hkb : 7 ≤ kb) (hL5 : L ≤ 5) : FnOk P w K mg base (L2.CX P w) (kb + 1) f fd ["reader", "loops"] (spLoop K C CS CT L) := by
  have Y := V'.Y
  have Z := Y.Z
  obtain ⟨fT, dT, MT, bT, GTk⟩ := Y.tok
  obtain ⟨fN, dN, gN, kN, bN, GN⟩ := Y.name
  obtain ⟨fO, dO, MO, bO, GO⟩ := V'.only
  obtain ⟨fS, dS, gS, kS, bS, GS⟩ := V'.size
  obtain ⟨t5, m5⟩ := V'.most
  refine F.okX sc_loop (fun vs H Q E h => ?_) (fun cdv A outer s H vs Q E hr h => ?_)
  · obtain ⟨R, ts, k, f, rfl, _⟩ := h; rfl
  · obtain ⟨R, ts, k, f, rfl, hRd, hkl, hS, hI, hf, q⟩ := h
    have hr1 : Room 1 _ := hr.mono (by omega)
    have hr2 : Room 2 _ := hr.mono (by omega)
    have hr3 : Room 3 _ := hr.mono (by omega)
    have hr4 : Room 4 _ := hr.mono (by omega)
    have hr7 : Room 7 _ := hr.mono (by omega)
    refine ⟨_, pss_cons (ps_set (i := 2) sc_loop.nd rfl (Or.inl rfl) (pe_call GN hr4 (by rfl) gN kN bN .nil (passes_call (takes_of rfl rfl rfl rfl) (fun _ _ _ _ h => h)) (pa_cons (pv 0) pa_nil)))
      (pss_cons (ps_set (i := 3) sc_loop.nd rfl (Or.inl rfl) (pe_call GS hr7 (by rfl) gS kS bS .nil (passes_call (takes_of rfl rfl rfl rfl) (fun _ _ _ _ h => h)) (pa_cons (pv 0) pa_nil)))
      (pss_cons (ps_if (PW.pt (pw_and (pt_cmpR op_eq (pe_meth0 (pv 0) Z.kit.cl MT GTk hr1 bT .nil pass0) pe_str (nomark _)) (pw_and1 (pt_cmpR op_ge (pv 1) (pe_glob (by rfl) m5 (v := .int 5) ⟨t5, rfl⟩) (nomark _)))))
        (pss_one (ps_raiseX Y.GT rfl (takes_of rfl rfl rfl rfl) hr2 pe_str)) pss_nil)
      (pss_cons (ps_expr (pe_meth (pv 0) Z.kit.cl MO GO hr3 bO .nil (passes_call (takes_of rfl rfl rfl rfl) (fun _ _ _ _ h => h)) (pa_cons pe_str pa_nil)))
      (pss_cons (ps_set (i := 4) sc_loop.nd rfl (Or.inl rfl) (pe_call GB hr (by rfl) gB kB bB .nil (passes_call (takes_of rfl rfl rfl rfl) (fun _ _ _ _ h => h)) (pa_cons (pv 0) (pa_cons (pe_op op_add (pv 1) pe_int) pa_nil))))
      (pss_cons (ps_expr (pe_meth (pv 0) Z.kit.cl MO GO hr3 bO .nil (passes_call (takes_of rfl rfl rfl rfl) (fun _ _ _ _ h => h)) (pa_cons pe_str pa_nil)))
      (pss_one (ps_ret (pe_tup (pa_cons pe_str (pa_cons (pv 2) (pa_cons (pv 3) (pa_cons (pv 4) pa_nil)))))))))))), ?_⟩
    have sO : Str.ofString "{" = ⟨#[123]⟩ := by decide +kernel
    have sC : Str.ofString "}" = ⟨#[125]⟩ := by decide +kernel
    have hsm : ∀ j, (tk ts j).length ≤ 100000 := fun j => by have := hS.sm j; omega
    unfold loopM at q
    by_cases hN : isNmL (tk ts k) = true
    · rw [if_pos hN] at q
      refine ⟨_, rfl, R, ts, k, _, rfl, hRd, at_tk hkl, hsm k, .inl ⟨hN, fun H1 h1 b1 => ?_⟩⟩
      have ne : tk ts k ≠ [] := fun e => by rw [e] at hN; exact absurd hN (by decide +kernel)
      have hk1 := hS.go k hkl ne
      have q := Ends'.but q b1
      refine ⟨_, rfl, R, ts, k + 1, rfl, h1, hk1, hS, ?_⟩
      cases hm : sizeM ts (k + 1) with
      | syn p => rw [hm] at q; exact q
      | big w => rw [hm] at q; exact q
      | ok sz j =>
        rw [hm] at q
        have gj := sizeM_gt hm
        rintro x H2 h2 hkj b2 ⟨z, rfl, hz⟩
        have q := Ends'.but q b2
        have q : Ends' C CS CT R H2 ts (fun s H' x => StOk K H' s x) (if tk ts j = [123] then (if 5 ≤ L then .big "nesting" else (blkF ts f (L + 1) (j + 1)).bind fun b i => if tk ts i = [125] then .ok (.loop (tk ts k) sz b) (i + 1) else .syn (ps ts i)) else .syn (ps ts j)) Q E := q
        obtain ⟨dx2, l2, hR2, ho2, hL2⟩ := id h2
        refine ⟨_, rfl, R, dx2, _, rfl, hR2, rfl, R, ts, j, _, rfl, h2, at_tk hkj, rfl, _, rfl, ?_⟩
        have em : decide (V.str ⟨(tk ts j).toArray⟩ = V.str (Str.ofString "{")) = decide (tk ts j = [123]) := decide_eq_decide.mpr ⟨fun z => (tkEq sO).mp (V.str.inj z), fun z => by rw [(tkEq sO).mpr z]⟩
        rw [em]
        by_cases hB1 : tk ts j = [123]
        · rw [if_pos hB1] at q
          rw [decide_eq_true hB1]
          refine iteT ⟨_, rfl, _, _, rfl, rfl, _, rfl, ?_⟩
          by_cases h5 : 5 ≤ L
          · rw [if_pos h5] at q
            rw [decide_eq_true (p := (5 : Int) ≤ (L : Int)) (by omega)]
            refine iteT fun d H3 hd s3 e3 => ?_
            exact q d H3 (ButR.of s3) e3
          · rw [if_neg h5] at q
            rw [decide_eq_false (p := (5 : Int) ≤ (L : Int)) (by omega)]
            refine iteF ?_
            have hkj1 := hS.go j hkj (by rw [hB1]; simp)
            refine ⟨_, rfl, R, dx2, _, rfl, hR2, rfl, R, ts, j, _, _, rfl, h2, at_tk hkj, .inl ⟨(tkEq sO).mpr hB1, fun H3 h3 b3 => ?_⟩⟩
            have q := Ends'.but q b3
            have hz3 := SqT.kp (ButR.kp hR2 b3) hz
            have eB := hB (by omega)
            subst eB
            refine ⟨_, rfl, _, rfl, _, _, rfl, rfl, ?_⟩
            refine ⟨R, ts, j + 1, f, by show [V.ref R, V.int ((L : Int) + 1)] = _; rw [one_int], h3, hkj1, hS, hI, by omega, ?_⟩
            cases hb : blkF ts f (L + 1) (j + 1) with
            | syn p => rw [hb] at q; have hb' : blockM ts f (L + 1) (j + 1) .nil = _ := hb; rw [hb']; exact q
            | big w => rw [hb] at q; have hb' : blockM ts f (L + 1) (j + 1) .nil = _ := hb; rw [hb']; exact q
            | ok b i =>
              rw [hb] at q
              have hb' : blockM ts f (L + 1) (j + 1) .nil = _ := hb
              rw [hb']
              rintro x H4 h4 hki b4 ⟨tb, us, rfl, htb, hbk⟩
              have q : Ends' C CS CT R H3 ts (fun s H' x => StOk K H' s x) (if tk ts i = [125] then .ok (.loop (tk ts k) sz b) (i + 1) else .syn (ps ts i)) Q E := q
              have q := Ends'.but q b4
              obtain ⟨dx3, l3, hR3, _⟩ := id h3
              obtain ⟨dx4, l4, hR4, _⟩ := id h4
              have hz4 := SqT.kp (ButR.kp hR3 b4) hz3
              by_cases hC1 : tk ts i = [125]
              · rw [if_pos hC1] at q
                have hki1 := hS.go i hki (by rw [hC1]; simp)
                refine ⟨_, rfl, R, dx4, _, rfl, hR4, rfl, R, ts, i, _, _, rfl, h4, at_tk hki, .inl ⟨(tkEq sC).mpr hC1, fun H5 h5 b5 => ?_⟩⟩
                have k5 := ButR.kp hR4 b5
                refine ⟨_, rfl, _, rfl, _, rfl, lenS (by simp), fun p hp => ?_⟩
                have k6 := Same.kp (Same.new (o := .tup [.str (Str.ofString "for"), .str ⟨(tk ts k).toArray⟩, .ref z, .ref tb]) hp)
                refine q (.ref p) _ (h5.same (Same.new hp)) hki1 (b5.trans (ButR.of (Same.new hp))) ?_
                simp only [StOk]
                exact ⟨p, z, tb, us, rfl, upd_same, SqT.kp k6 (SqT.kp k5 hz4), SqT.kp k6 (SqT.kp k5 htb), BkOk.kp k6 b us (BkOk.kp k5 b us hbk)⟩
              · rw [if_neg hC1] at q
                exact ⟨_, rfl, R, dx4, _, rfl, hR4, rfl, R, ts, i, _, _, rfl, h4, at_tk hki, .inr ⟨fun z => hC1 ((tkEq sC).mp z), q⟩⟩
        · rw [if_neg hB1] at q
          rw [decide_eq_false hB1]
          refine iteF (iteF ?_)
          exact ⟨_, rfl, R, dx2, _, rfl, hR2, rfl, R, ts, j, _, _, rfl, h2, at_tk hkj, .inr ⟨fun z => hB1 ((tkEq sO).mp z), q⟩⟩
    · rw [if_neg hN] at q
      exact ⟨_, rfl, R, ts, k, _, rfl, hRd, at_tk hkl, hsm k, .inr ⟨Bool.eq_false_iff.mpr hN, q⟩⟩
theorem ok_statement {L kl : Nat} {f fL : Addr} {fd dL : FuncData} (F : Fun K "_statement" "_statement" S_statement f fd) (V' : PsS P w K mg base C CS CT) (GL : FnOk P w K mg base (L2.CX P w) kl fL dL ["reader", "loops"] (spLoop K C CS CT L)) (kL : PySem.W.keepIn K (.ref fL) = true) (bL : Binds K dL ["reader", "loops"] []) (gL : mg "_loop" = some (.ref fL))
    (hkl : 8 ≤ kl) : FnOk P w K mg base (L2.CX P w) (kl + 1) f fd ["reader", "loops"] (spStm K C CS CT L) := by
  have Y := V'.Y
  have Z := Y.Z
  obtain ⟨fA, dA, MA, bA, GA⟩ := Y.any
  obtain ⟨fN, dN, gN, kN, bN, GN⟩ := Y.name
  obtain ⟨fO, dO, MO, bO, GO⟩ := V'.only
  obtain ⟨fI, dI, gI, kI, bI, GI⟩ := V'.index
  refine F.okX sc_statement (fun vs H Q E h => ?_) (fun cdv A outer s H vs Q E hr h => ?_)
  · obtain ⟨R, ts, k, f, rfl, _⟩ := h; rfl
  · obtain ⟨R, ts, k, f, rfl, hRd, hk, hS, hI, hf, hst, q⟩ := h
    have hr2 : Room 2 _ := hr.mono (by omega)
    have hr3 : Room 3 _ := hr.mono (by omega)
    have hr4 : Room 4 _ := hr.mono (by omega)
    have hr7 : Room 7 _ := hr.mono (by omega)
    refine ⟨_, pss_cons (ps_set (i := 2) sc_statement.nd rfl (Or.inl rfl) (pe_meth0 (pv 0) Z.kit.cl MA GA hr2 bA .nil pass0))
      (pss_cons (ps_if (pt_cmpR op_eq (pv 2) pe_str (nomark _)) (pss_one (ps_ret (pe_tup (pa_cons (pv 2) pa_nil)))) pss_nil)
      (pss_cons (ps_if (pt_cmpR op_eq (pv 2) pe_str (nomark _)) (pss_one (ps_ret (pe_call GL hr (by rfl) gL kL bL .nil (passes_call (takes_of rfl rfl rfl rfl) (fun _ _ _ _ h => h)) (pa_cons (pv 0) (pa_cons (pv 1) pa_nil))))) pss_nil)
      (pss_cons (ps_set (i := 3) sc_statement.nd rfl (Or.inl rfl) (pe_call GN hr4 (by rfl) gN kN bN .nil (passes_call (takes_of rfl rfl rfl rfl) (fun _ _ _ _ h => h)) (pa_cons (pv 0) pa_nil)))
      (pss_cons (ps_expr (pe_meth (pv 0) Z.kit.cl MO GO hr3 bO .nil (passes_call (takes_of rfl rfl rfl rfl) (fun _ _ _ _ h => h)) (pa_cons pe_str pa_nil)))
      (pss_cons (ps_set (i := 4) sc_statement.nd rfl (Or.inl rfl) (pe_call GI hr7 (by rfl) gI kI bI .nil (passes_call (takes_of rfl rfl rfl rfl) (fun _ _ _ _ h => h)) (pa_cons (pv 0) pa_nil)))
      (pss_cons (ps_expr (pe_meth (pv 0) Z.kit.cl MO GO hr3 bO .nil (passes_call (takes_of rfl rfl rfl rfl) (fun _ _ _ _ h => h)) (pa_cons pe_str pa_nil)))
      (pss_one (ps_ret (pe_tup (pa_cons (pv 2) (pa_cons (pv 3) (pa_cons (pv 4) pa_nil)))))))))))), ?_⟩
    have sF : Str.ofString "flush" = ⟨tFLUSH.toArray⟩ := by decide +kernel
    have sR : Str.ofString "for" = ⟨tFOR.toArray⟩ := by decide +kernel
    have sO : Str.ofString "[" = ⟨#[91]⟩ := by decide +kernel
    have sC : Str.ofString "]" = ⟨#[93]⟩ := by decide +kernel
    have hsm : ∀ j, (tk ts j).length ≤ 100000 := fun j => by have := hS.sm j; omega
    have ne : tk ts k ≠ [] := fun e => by rw [e] at hst; exact absurd hst (by decide)
    have hk1 := hS.go k hk ne
    have strEq : ∀ {a b : List Nat}, decide (V.str ⟨a.toArray⟩ = V.str ⟨b.toArray⟩) = decide (a = b) := fun {a b} => decide_eq_decide.mpr ⟨fun z => by
      have z := V.str.inj z
      injection z with z
      simpa using z, fun z => by rw [z]⟩
    unfold stmM at q
    obtain ⟨dx, l, hR, ho, hL⟩ := id hRd
    refine ⟨_, rfl, R, dx, _, rfl, hR, rfl, R, ts, k, _, rfl, hRd, at_tk hk, fun H1 h1 b1 => ?_⟩
    have q := Ends'.but q b1
    refine ⟨_, rfl, rfl, _, rfl, ?_⟩
    rw [sF, strEq]
    by_cases e1 : tk ts k = tFLUSH
    · rw [if_pos e1] at q
      rw [decide_eq_true e1]
      refine iteT ⟨_, rfl, lenS (by simp), fun p hp => ?_⟩
      refine q (.ref p) _ (h1.same (Same.new hp)) hk1 (ButR.of (Same.new hp)) ?_
      simp only [StOk]
      exact ⟨p, rfl, by rw [upd_same, e1]⟩
    rw [if_neg e1] at q
    rw [decide_eq_false e1]
    refine iteF ⟨_, rfl, rfl, _, rfl, ?_⟩
    rw [sR, strEq]
    by_cases e2 : tk ts k = tFOR
    · rw [if_pos e2] at q
      rw [decide_eq_true e2]
      refine iteT ⟨_, rfl, _, rfl, R, ts, k + 1, f, rfl, h1, hk1, hS, hI, hf, q⟩
    rw [if_neg e2] at q
    rw [decide_eq_false e2]
    refine iteF ?_
    by_cases hN : isNmL (tk ts (k + 1)) = true
    · rw [if_pos hN] at q
      have ne1 : tk ts (k + 1) ≠ [] := fun e => by rw [e] at hN; exact absurd hN (by decide +kernel)
      have hk2 := hS.go (k + 1) hk1 ne1
      refine ⟨_, rfl, R, ts, k + 1, _, rfl, h1, at_tk hk1, hsm (k + 1), .inl ⟨hN, fun H2 h2 b2 => ?_⟩⟩
      have q := Ends'.but q b2
      obtain ⟨dx2, l2, hR2, _⟩ := id h2
      by_cases hO1 : tk ts (k + 2) = [91]
      · rw [if_pos hO1] at q
        have hk3 := hS.go (k + 2) hk2 (by rw [hO1]; simp)
        refine ⟨_, rfl, R, dx2, _, rfl, hR2, rfl, R, ts, k + 2, _, _, rfl, h2, at_tk hk2, .inl ⟨(tkEq sO).mpr hO1, fun H3 h3 b3 => ?_⟩⟩
        have q := Ends'.but q b3
        refine ⟨_, rfl, R, ts, k + 3, rfl, h3, hk3, hS, (fun cs k' => hI _ cs k'), ?_⟩
        cases hm : sumsM ts true (k + 3) with
        | syn p => rw [hm] at q; exact q
        | big w => rw [hm] at q; exact q
        | ok cs j =>
          rw [hm] at q
          have q : Ends' C CS CT R H3 ts (fun s H' x => StOk K H' s x) (if tk ts j = [93] then .ok (.acc (tk ts k) (tk ts (k + 1)) cs) (j + 1) else .syn (ps ts j)) Q E := q
          rintro x H4 h4 hkj b4 hix
          have q := Ends'.but q b4
          obtain ⟨dx4, l4, hR4, _⟩ := id h4
          obtain ⟨qi, ti, fi, ysi, vsi, rfl, hi1, hi2⟩ := id hix
          by_cases hC1 : tk ts j = [93]
          · rw [if_pos hC1] at q
            have hkj1 := hS.go j hkj (by rw [hC1]; simp)
            refine ⟨_, rfl, R, dx4, _, rfl, hR4, rfl, R, ts, j, _, _, rfl, h4, at_tk hkj, .inl ⟨(tkEq sC).mpr hC1, fun H5 h5 b5 => ?_⟩⟩
            refine ⟨_, rfl, _, rfl, _, rfl, lenS (by simp), fun p hp => ?_⟩
            refine q (.ref p) _ (h5.same (Same.new hp)) hkj1 (b5.trans (ButR.of (Same.new hp))) ?_
            simp only [StOk]
            exact ⟨p, qi, rfl, upd_same, (hix.kp (ButR.kp hR4 b5)).kp (Same.kp (Same.new hp))⟩
          · rw [if_neg hC1] at q
            exact ⟨_, rfl, R, dx4, _, rfl, hR4, rfl, R, ts, j, _, _, rfl, h4, at_tk hkj, .inr ⟨fun z => hC1 ((tkEq sC).mp z), q⟩⟩
      · rw [if_neg hO1] at q
        exact ⟨_, rfl, R, dx2, _, rfl, hR2, rfl, R, ts, k + 2, _, _, rfl, h2, at_tk hk2, .inr ⟨fun z => hO1 ((tkEq sO).mp z), q⟩⟩
    · rw [if_neg hN] at q
      exact ⟨_, rfl, R, ts, k + 1, _, rfl, h1, at_tk hk1, hsm (k + 1), .inr ⟨Bool.eq_false_iff.mpr hN, q⟩⟩
theorem st_mem (s : List Nat) : (["for", "read", "write", "flush"] : List Str).contains ⟨s.toArray⟩ = decide (s ∈ STs) := by
  have e1 : ("for" : Str) = ⟨tFOR.toArray⟩ := by decide +kernel
  have e2 : ("read" : Str) = ⟨tREAD.toArray⟩ := by decide +kernel
  have e3 : ("write" : Str) = ⟨tWRITE.toArray⟩ := by decide +kernel
  have e4 : ("flush" : Str) = ⟨tFLUSH.toArray⟩ := by decide +kernel
  have k : ∀ b : List Nat, ((⟨s.toArray⟩ : Str) == ⟨b.toArray⟩) = decide (s = b) := fun b => by
    rw [Bool.eq_iff_iff, beq_iff_eq, decide_eq_true_iff]
    exact ⟨fun z => by injection z with z; simpa using z, fun z => by rw [z]⟩
  rw [e1, e2, e3, e4]
  simp only [List.contains_cons, List.contains_nil, k, Bool.or_false]
  simp only [List.mem_cons, List.not_mem_nil, or_false, Bool.decide_or]
theorem ok_block {L ks : Nat} {f fS : Addr} {fd dS : FuncData} (F : Fun K "_block" "_block" S_block f fd) (V' : PsS P w K mg base C CS CT) (GS : FnOk P w K mg base (L2.CX P w) ks fS dS ["reader", "loops"] (spStm K C CS CT L)) (kS : PySem.W.keepIn K (.ref fS) = true) (bS : Binds K dS ["reader", "loops"] []) (gS : mg "_statement" = some (.ref fS))
    (hks : 9 ≤ ks) : FnOk P w K mg base (L2.CX P w) (ks + 1) f fd ["reader", "loops"] (spBlock K C CS CT L) := by
  have Y := V'.Y
  have Z := Y.Z
  obtain ⟨fT, dT, MT, bT, GTk⟩ := Y.tok
  obtain ⟨as, ma, ha⟩ := V'.st
  refine F.okX sc_block (fun vs H Q E h => ?_) (fun cdv A outer s H vs Q E hr h => ?_)
  · obtain ⟨R, ts, k, f, rfl, _⟩ := h; rfl
  · obtain ⟨R, ts, k, f, rfl, hRd, hkl, hS, hI, hf, q⟩ := h
    have hr1 : Room 1 _ := hr.mono (by omega)
    refine ⟨_, pss_cons (ps_set (i := 2) sc_block.nd rfl (Or.inl rfl) (pe_lst pa_nil))
      (pss_cons (ps_while (passes_of rfl) (pt_cmpR op_in_seq (pe_meth0 (pv 0) Z.kit.cl MT GTk hr1 bT .nil pass0) (pe_glob (by rfl) ma (v := .ref as) rfl) (by rfl))
        (pss_one (ps_expr (pe_bm PySem.F.plainAttrs_list PySem.F.slot_list_append PySem.F.type_list_append mt_append (pv 2) (pa_cons (pe_call GS hr (by rfl) gS kS bS .nil (passes_call (takes_of rfl rfl rfl rfl) (fun _ _ _ _ h => h)) (pa_cons (pv 0) (pa_cons (pv 1) pa_nil))) pa_nil)))))
      (pss_one (ps_ret (pe_callTy call_tuple_of (by rfl) V'.tup (by decide +kernel) (pa_cons (pv 2) pa_nil))))), ?_⟩
    refine ⟨Nat.zero_le _, fun bl hbl => ?_⟩
    refine ⟨fun m σ H' => ∃ (k1 f1 : Nat) (acc : Blk) (us : List V), m = f1 ∧ σ = [some (.ref R), some (.int (L : Int)), some (.ref bl)] ∧ RdAt C H' R ts k1 ∧ k1 < ts.length ∧ ButR R H H' ∧ H' bl = some (.lst us) ∧ us.length ≤ k1 ∧ BkOk K H' acc us ∧ ts.length ≤ k1 + f1 ∧ blockM ts f1 L k1 acc = blockM ts f L k .nil,
      ⟨f, k, f, .nil, [], rfl, rfl, hRd.same (Same.new hbl), hkl, ButR.of (Same.new hbl), upd_same, Nat.zero_le _, by simp only [BkOk], hf, rfl⟩, ?_⟩
    rintro m σ H1 ⟨k1, f1, acc, us, rfl, rfl, h1, hk1, b1, hl1, hu1, hb1, hf1, eM⟩
    obtain ⟨dx1, l1, hR1, ho1, hL1⟩ := id h1
    obtain ⟨f1, rfl⟩ : ∃ f', m = f' + 1 := ⟨m - 1, by omega⟩
    rw [← eM] at q
    unfold blockM at q
    have eI : inV (.str ⟨(tk ts k1).toArray⟩) ((["for", "read", "write", "flush"] : List Str).map V.str) = decide (tk ts k1 ∈ STs) := (inV_str _ _).trans (st_mem _)
    refine ⟨_, rfl, R, dx1, _, rfl, hR1, rfl, R, ts, k1, _, rfl, h1, at_tk hk1, as, (["for", "read", "write", "flush"] : List Str).map V.str, rfl, .inr (ha H1), rfl, flat_strs _, _, rfl, ?_⟩
    rw [eI]
    by_cases hst : tk ts k1 ∈ STs
    · rw [if_pos hst] at q
      rw [decide_eq_true hst]
      refine iteT ⟨fun σ' H2 => ∃ (k2 : Nat) (acc2 : Blk) (us2 : List V), σ' = [some (.ref R), some (.int (L : Int)), some (.ref bl)] ∧ RdAt C H2 R ts k2 ∧ k2 < ts.length ∧ ButR R H H2 ∧ H2 bl = some (.lst us2) ∧ us2.length ≤ k2 ∧ BkOk K H2 acc2 us2 ∧ ts.length ≤ k2 + f1 ∧ blockM ts f1 L k2 acc2 = blockM ts f L k .nil,
        fun σ' H2 ⟨k2, acc2, us2, a1, a2, a3, a4, a5, a6, a7, a8, a9⟩ => ⟨f1, Nat.lt_succ_self f1, k2, f1, acc2, us2, rfl, a1, a2, a3, a4, a5, a6, a7, a8, a9⟩, ?_⟩
      have eM' : (stmM ts (blkF ts f1) L k1).bind (fun s j => blockM ts f1 L j (.snoc acc s)) = blockM ts f L k .nil := by
        have e0 : blockM ts (f1 + 1) L k1 acc = if tk ts k1 ∈ STs then (stmM ts (blkF ts f1) L k1).bind (fun s j => blockM ts f1 L j (.snoc acc s)) else .ok acc k1 := rfl
        rw [← eM, e0, if_pos hst]
      have q : Ends' C CS CT R H ts (fun b H' x => ∃ (t : Addr) (us : List V), x = .ref t ∧ SqT K H' t us ∧ BkOk K H' b us) ((stmM ts (blkF ts f1) L k1).bind (fun s j => blockM ts f1 L j (.snoc acc s))) Q E := q
      refine ⟨_, rfl, .inl ⟨rfl, _, .of hl1⟩, _, rfl, _, rfl, R, ts, k1, f1, rfl, h1, hk1, hS, hI, by omega, hst, ?_⟩
      cases hm : stmM ts (blkF ts f1) L k1 with
      | syn p => rw [hm] at q; exact Out.but (show Out CS R H p E from q) b1
      | big w => rw [hm] at q; exact OutW.but (show OutW CT R H w E from q) b1
      | ok st j =>
        rw [hm] at eM'
        have gj := stmM_gt (fun L' k' b' j' e => blockM_ge ts f1 L' k' .nil b' j' e) hm
        intro x H2 h2 hkj b2 hx
        have hl2 := b2 _ _ hl1 (fun n => by rw [n, hR1] at hl1; cases hl1)
        have hb2 := BkOk.kp (ButR.kp hR1 b2) acc us hb1
        refine ⟨bl, us, x, rfl, rfl, hl2, Nat.lt_of_le_of_lt (show us.length ≤ 100000 by have := hS.ln; omega) (by decide), ?_⟩
        have far := BkOk.far acc us hb2
        have kU := updL.kp (o := .lst (us ++ [x])) hl2
        refine ⟨j, .snoc acc st, us ++ [x], rfl, h2.updL hkj hl2 far, hkj, ?_, upd_same, by rw [List.length_append, List.length_singleton]; omega, ?_, by omega, eM'⟩
        · intro b o e n
          have nb : b ≠ bl := ne_of_none e hbl
          rw [upd_ne nb]
          exact b2 _ _ (b1 _ _ e n) n
        · simp only [BkOk]
          exact ⟨us, x, rfl, StOk.kp kU st x hx, BkOk.kp kU acc us hb2⟩
    · rw [if_neg hst] at q
      rw [decide_eq_false hst]
      refine iteF ?_
      refine ⟨_, rfl, bl, us, rfl, .inl ⟨.of hl1, fun ft hft => ?_⟩⟩
      have sF := Same.new (o := .tup us) hft
      exact q (.ref ft) _ (h1.same sF) hk1 (b1.trans (ButR.of sF)) ⟨ft, us, rfl, .of upd_same, BkOk.kp (Same.kp sF) acc us hb1⟩
/-- every block at once -/
theorem ok_blocks {fB fS fL : Addr} {dB dS dL : FuncData} (FB : Fun K "_block" "_block" S_block fB dB) (bB : Binds K dB ["reader", "loops"] []) (gB : mg "_block" = some (.ref fB)) (FS : Fun K "_statement" "_statement" S_statement fS dS) (bS : Binds K dS ["reader", "loops"] []) (gS : mg "_statement" = some (.ref fS))
    (FL : Fun K "_loop" "_loop" S_loop fL dL) (bL : Binds K dL ["reader", "loops"] []) (gL : mg "_loop" = some (.ref fL)) (V' : PsS P w K mg base C CS CT) : ∀ d L : Nat, L + d = 5 → FnOk P w K mg base (L2.CX P w) (10 + 3 * d) fB dB ["reader", "loops"] (spBlock K C CS CT L)
  | 0, L, e => by
    have G0 : FnOk P w K mg base (L2.CX P w) 7 fB dB ["reader", "loops"] (fun _ _ _ _ => False) := FB.okX sc_block (fun _ _ _ _ h => h.elim) (fun _ _ _ _ _ _ _ _ _ h => h.elim)
    have GL := ok_loop (L := L) (kb := 7) FL V' G0 FB.kp bB gB (fun h => by omega) (Nat.le_refl _) (by omega)
    have GS := ok_statement (L := L) (kl := 8) FS V' GL FL.kp bL gL (Nat.le_refl _)
    exact ok_block (L := L) (ks := 9) FB V' GS FS.kp bS gS (Nat.le_refl _)
  | d + 1, L, e => by
    have GB := ok_blocks FB bB gB FS bS gS FL bL gL V' d (L + 1) (by omega)
    have GL := ok_loop (L := L) (kb := 10 + 3 * d) FL V' GB FB.kp bB gB (fun _ => rfl) (by omega) (by omega)
    have GS := ok_statement (L := L) (kl := 10 + 3 * d + 1) FS V' GL FL.kp bL gL (by omega)
    have GB' := ok_block (L := L) (ks := 10 + 3 * d + 1 + 1) FB V' GS FS.kp bS gS (by omega)
    have e2 : 10 + 3 * d + 1 + 1 + 1 = 10 + 3 * (d + 1) := by omega
    rw [e2] at GB'
    exact GB'
end

end K02

namespace K02
open PySem L2 SZ VR VX StX RT
/-! ### a whole text -/
theorem snt_toks {z : Str} (hz : z.length ≤ 50000) : Snt (toks z.cps.toList 0 ++ [([], z.length)]) := by
  have hl := toks_len z.cps.toList (z.cps.toList.length - 0) 0 rfl
  have hz' : z.cps.toList.length ≤ 50000 := hz
  have sub : ∀ (n a : Nat), z.cps.toList.length - a = n → ∀ t ∈ toks z.cps.toList a, t.1.length ≤ z.cps.toList.length := by
    intro n
    induction n using Nat.strongRecOn with
    | ind n ih =>
      intro a e t ht
      by_cases hl : a < z.cps.toList.length
      · have hc : z.cps.toList[a]? = some z.cps.toList[a] := List.getElem?_eq_getElem hl
        have h1 := nxt_gt z.cps.toList a
        cases g : gp z.cps.toList[a] with
        | true =>
          rw [toks_gap hc g] at ht
          exact ih _ (by omega) _ rfl t ht
        | false =>
          rw [toks_tok hc g] at ht
          rcases List.mem_cons.mp ht with ht | ht
          · rw [ht]
            show (List.take _ _).length ≤ _
            rw [List.length_take, List.length_drop]
            omega
          · exact ih _ (by omega) _ rfl t ht
      · rw [toks_end hl] at ht
        cases ht
  refine ⟨fun k hk hne => ?_, fun k => ?_, ?_⟩
  · rw [List.length_append, List.length_singleton] at hk ⊢
    by_cases e : k = (toks z.cps.toList 0).length
    · refine absurd ?_ hne
      unfold tk
      rw [List.getElem?_append_right (by omega), e, Nat.sub_self]
      rfl
    · omega
  · unfold tk
    cases h : (toks z.cps.toList 0 ++ [([], z.length)])[k]? with
    | none => exact Nat.zero_le _
    | some t =>
      have hm := List.mem_of_getElem? h
      show t.1.length ≤ 50000
      rcases List.mem_append.mp hm with hm | hm
      · have := sub _ 0 rfl t hm
        omega
      · rw [List.mem_singleton.mp hm]
        exact Nat.zero_le _
  · rw [List.length_append, List.length_singleton]
    omega
/-- the tokens of a text, the end among them -/
def tokz (z : Str) : List (List Nat × Nat) := toks z.cps.toList 0 ++ [([], z.length)]
/-- what leaves a def that makes its own reader -/
def OutV (CV : Addr) (H : Hp) (v : V) (E : XK) : Prop := ∀ (d : Addr) (H' : Hp), Same H H' → H' d = some (.xd [("value", v)]) → E (.ref CV) (some d) H'
def OutS (CS : Addr) (H : Hp) (p : Nat) (E : XK) : Prop := ∀ (d : Addr) (H' : Hp), Same H H' → H' d = some (.xd [("position", .int (p : Int))]) → E (.ref CS) (some d) H'
def OutT (CT : Addr) (H : Hp) (x : Str) (E : XK) : Prop := ∀ (d : Addr) (H' : Hp), Same H H' → H' d = some (.xd [("word", .str x)]) → E (.ref CT) (some d) H'
def spReader (K : PySem.W.Frag) (C CV : Addr) : Sp := fun vs H Q E => ∃ v, vs = [v] ∧ ((∃ z : Str, v = .str z ∧ z.length ≤ 50000 ∧ ∀ (R : Addr) (H' : Hp), H R = none → Same H H' → RdAt C H' R (tokz z) 0 → Q (.ref R) H') ∨
  ∃ t, TyX K H v t ∧ PySem.W.kitOne K t (.type "str") = some false ∧ OutV CV H v E)
/-- how a whole text is told -/
def EndsZ {α : Type} (CS CT : Addr) (H : Hp) (val : α → Hp → V → Prop) (r : Res α) (Q : VK) (E : XK) : Prop :=
  match r with
  | .ok v _ => ∀ (x : V) (H' : Hp), Same H H' → val v H' x → Q x H'
  | .syn p => OutS CS H p E
  | .big w => OutT CT H w E
theorem same_of_but {H H0 H1 : Hp} {R : Addr} (hR : H R = none) (s : Same H H0) (b : ButR R H0 H1) : Same H H1 := fun c o e => b c o (s c o e) (ne_of_none e hR)
theorem EndsZ.but {α : Type} {C CS CT R : Addr} {H H1 : Hp} {ts : List (List Nat × Nat)} {val : α → Hp → V → Prop} {r : Res α} {Q : VK} {E : XK} (h : EndsZ CS CT H val r Q E) (hR : H R = none) (s : Same H H1) : Ends' C CS CT R H1 ts val r Q E := by
  cases r with
  | ok v k => exact fun x H' _ _ b hv => h x H' (same_of_but hR s b) hv
  | syn p => exact fun d H' b e => h d H' (same_of_but hR s b) e
  | big w => exact fun d H' b e => h d H' (same_of_but hR s b) e
def arraysM (ts : List (List Nat × Nat)) : Nat → Nat → List (List Nat × List Int) → Res (List (List Nat × List Int))
  | 0, _, _ => .syn 0
  | f + 1, k, as => if tk ts k = tARRAY then (if isNmL (tk ts (k + 1)) = true then (sizeM ts (k + 2)).bind fun sz j => arraysM ts f j (as ++ [(tk ts (k + 1), sz)]) else .syn (ps ts (k + 1))) else .ok as k
def endM {α : Type} (ts : List (List Nat × Nat)) (v : α) (k : Nat) : Res α := if tk ts k = [] then .ok v k else .syn (ps ts k)
def parseM (ts : List (List Nat × Nat)) : Res (List (List Nat × List Int) × Blk) := (arraysM ts ts.length 0 []).bind fun as k => (blockM ts ts.length 0 k .nil).bind fun b j => endM ts (as, b) j
def parseSizeM (ts : List (List Nat × Nat)) : Res (List Int) := (sizeM ts 0).bind fun sz j => endM ts sz j
def parseBlockM (ts : List (List Nat × Nat)) : Res Blk := (blockM ts ts.length 0 0 .nil).bind fun b j => endM ts b j
def BlkV (K : PySem.W.Frag) (b : Blk) (H : Hp) (x : V) : Prop := ∃ (t : Addr) (us : List V), x = .ref t ∧ SqT K H t us ∧ BkOk K H b us
/-- a pair (name, parts) -/
def ArrAt (K : PySem.W.Frag) (H : Hp) (v : V) (p : List Nat × List Int) : Prop := FacAt K H v p
theorem FacAt.far {K : PySem.W.Frag} {H : Hp} {v : V} {p : List Nat × List Int} (h : FacAt K H v p) (t : List Nat × Nat) : ¬ TokAt H v t := by
  rintro ⟨b, eb, hb⟩
  obtain ⟨a, s, rfl, ha, _⟩ := h
  cases eb
  rw [ha] at hb
  have hb := Option.some.inj hb
  injection hb with hb
  injection hb with _ hb
  injection hb with hb _
  cases hb
theorem Paired.mem_left {α β : Type} {F : α → β → Prop} {xs : List α} {ys : List β} (h : Paired F xs ys) : ∀ x ∈ xs, ∃ y, F x y := by
  induction h with
  | nil => intro x hx; cases hx
  | cons f _ ih =>
    intro x hx
    rcases List.mem_cons.mp hx with rfl | hx
    · exact ⟨_, f⟩
    · exact ih x hx
def TreeOk (K : PySem.W.Frag) (t : List (List Nat × List Int) × Blk) (H : Hp) (x : V) : Prop := ∃ (q ta tb : Addr) (vs us : List V), x = .ref q ∧ H q = some (.tup [.ref ta, .ref tb]) ∧ SqT K H ta vs ∧ Paired (FacAt K H) vs t.1 ∧ SqT K H tb us ∧ BkOk K H t.2 us
def spParse (K : PySem.W.Frag) (CV CS CT : Addr) : Sp := fun vs H Q E => ∃ v, vs = [v] ∧ ((∃ z : Str, v = .str z ∧ z.length ≤ 50000 ∧ I64 (tokz z) ∧ EndsZ CS CT H (TreeOk K) (parseM (tokz z)) Q E) ∨
  ∃ t, TyX K H v t ∧ PySem.W.kitOne K t (.type "str") = some false ∧ OutV CV H v E)
/-- the way in, the way out -/
structure PzS (P : Program) (w : World) (K : PySem.W.Frag) (mg : Str → Option Value) (base : Heap) (C CV CS CT : Addr) : Prop where
  V' : PsS P w K mg base C CS CT
  rd : ∃ f fd, mg "_reader" = some (.ref f) ∧ PySem.W.keepIn K (.ref f) = true ∧ Binds K fd ["text"] [] ∧ FnOk P w K mg base (L2.CX P w) 5 f fd ["text"] (spReader K C CV)
  fin : ∃ f fd, Meth K C "pass_end" f ∧ Binds K fd ["self"] [] ∧ FnOk P w K mg base (L2.CX P w) 3 f fd ["self"] (spPassEnd C CS)
  blk : ∃ f fd, mg "_block" = some (.ref f) ∧ PySem.W.keepIn K (.ref f) = true ∧ Binds K fd ["reader", "loops"] [] ∧ FnOk P w K mg base (L2.CX P w) 25 f fd ["reader", "loops"] (spBlock K C CS CT 0)
section
variable {P : Program} {w : World} {K : PySem.W.Frag} {mg : Str → Option Value} {base : Heap} {C CV CS CT : Addr}
theorem ok_reader {f fI : Addr} {fd dI : FuncData} (F : Fun K "_reader" "_reader" S_reader f fd) (MI : Mk K C fI) (GI : FnOk P w K mg base CX0 3 fI dI ["self", "text"] (spRdInit C)) (bI : Binds K dI ["self", "text"] []) (mI : mg "Reader" = some (.ref C)) (his : mg "isinstance" = none) (hst : mg "str" = none) (GV : SxC P w K mg base "InvalidText" CV "value") :
    FnOk P w K mg base (L2.CX P w) 5 f fd ["text"] (spReader K C CV) := by
  refine F.okX sc_reader (fun vs H Q E h => ?_) (fun cdv A outer s H vs Q E hr h => ?_)
  · obtain ⟨v, rfl, _⟩ := h; rfl
  · obtain ⟨v, rfl, q⟩ := h
    have hr2 : Room 2 _ := hr.mono (by decide)
    refine ⟨_, pss_cons (ps_if (pt_not (pt_val (pe_callB call_isi (by rfl) his (by decide +kernel) (pa_cons (pv 0) (pa_cons (pe_bltn (by rfl) hst (u := .type "str") (v := .ty "str") (by decide +kernel) rfl) pa_nil)))))
        (pss_one (ps_raiseX GV rfl (takes_of rfl rfl rfl rfl) hr2 (pv 0))) pss_nil)
      (pss_one (ps_ret (pe_make MI GI hr (by rfl) mI bI .nil pass0 (pa_cons (pv 0) pa_nil)))), ?_⟩
    rcases q with ⟨z, rfl, hz, q⟩ | ⟨t, ty, kt, q⟩
    · refine ⟨_, rfl, .str z, .ty "str", .type "str", .type "str", true, rfl, .ty _, .base (.str z), if_pos (beq_self_eq_true _), true, rfl, ?_⟩
      refine iteF ?_
      refine ⟨_, rfl, fun x dx hx hdx hne => ?_⟩
      have sM := (Same.new (H := H) (o := .ins C dx []) hx)
      refine ⟨x, dx, z, rfl, upd_same, ?_, hz, fun H' b hR => ⟨rfl, ?_⟩⟩
      · rw [upd_ne hne, upd_same]
      · refine q x H' hx ?_ hR
        intro b' o e
        have n1 : b' ≠ x := ne_of_none e hx
        have n2 : b' ≠ dx := ne_of_none e hdx
        exact b b' o (by rw [upd_ne n1, upd_ne n2]; exact e) n1
    · refine ⟨_, rfl, v, .ty "str", t, .type "str", false, rfl, .ty _, ty, kt, false, rfl, iteT ?_⟩
      exact ⟨_, rfl, fun d H' hd s1 h1 => q d H' s1 h1⟩
theorem ok_parse {f : Addr} {fd : FuncData} (F : Fun K "parse" "parse" S_parse f fd) (W : PzS P w K mg base C CV CS CT) : FnOk P w K mg base (L2.CX P w) 26 f fd ["text"] (spParse K CV CS CT) := by
  have V' := W.V'
  have Y := V'.Y
  have Z := Y.Z
  obtain ⟨fP, dP, MP, bP, GP⟩ := Y.passes
  obtain ⟨fN, dN, gN, kN, bN, GN⟩ := Y.name
  obtain ⟨fS, dS, gS, kS, bS, GS⟩ := V'.size
  obtain ⟨fR, dR, gR, kR, bR, GR⟩ := W.rd
  obtain ⟨fE, dE, ME, bE, GE⟩ := W.fin
  obtain ⟨fB, dB, gB, kB, bB, GB⟩ := W.blk
  refine F.okX sc_parse (fun vs H Q E h => ?_) (fun cdv A outer s H vs Q E hr h => ?_)
  · obtain ⟨v, rfl, _⟩ := h; rfl
  · obtain ⟨v, rfl, q⟩ := h
    have hr2 : Room 2 _ := hr.mono (by decide)
    have hr3 : Room 3 _ := hr.mono (by decide)
    have hr4 : Room 4 _ := hr.mono (by decide)
    have hr5 : Room 5 _ := hr.mono (by decide)
    have hr7 : Room 7 _ := hr.mono (by decide)
    refine ⟨_, pss_cons (ps_set (i := 1) sc_parse.nd rfl (Or.inl rfl) (pe_call GR hr5 (by rfl) gR kR bR .nil (passes_call (takes_of rfl rfl rfl rfl) (fun _ _ _ _ h => h)) (pa_cons (pv 0) pa_nil)))
      (pss_cons (ps_set (i := 2) sc_parse.nd rfl (Or.inl rfl) (pe_lst pa_nil))
      (pss_cons (ps_while (passes_of rfl) (pt_val (pe_meth (pv 1) Z.kit.cl MP GP hr2 bP .nil pass0 (pa_cons pe_str pa_nil)))
        (pss_cons (ps_set (i := 3) sc_parse.nd rfl (Or.inl rfl) (pe_call GN hr4 (by rfl) gN kN bN .nil (passes_call (takes_of rfl rfl rfl rfl) (fun _ _ _ _ h => h)) (pa_cons (pv 1) pa_nil)))
        (pss_one (ps_expr (pe_bm PySem.F.plainAttrs_list PySem.F.slot_list_append PySem.F.type_list_append mt_append (pv 2) (pa_cons (pe_tup (pa_cons (pv 3) (pa_cons (pe_call GS hr7 (by rfl) gS kS bS .nil (passes_call (takes_of rfl rfl rfl rfl) (fun _ _ _ _ h => h)) (pa_cons (pv 1) pa_nil)) pa_nil))) pa_nil))))))
      (pss_cons (ps_set (i := 4) sc_parse.nd rfl (Or.inl rfl) (pe_call GB hr (by rfl) gB kB bB .nil (passes_call (takes_of rfl rfl rfl rfl) (fun _ _ _ _ h => h)) (pa_cons (pv 1) (pa_cons pe_int pa_nil))))
      (pss_cons (ps_expr (pe_meth0 (pv 1) Z.kit.cl ME GE hr3 bE .nil (passes_call (takes_of rfl rfl rfl rfl) (fun _ _ _ _ h => h))))
      (pss_one (ps_ret (pe_tup (pa_cons (pe_callTy call_tuple_of (by rfl) V'.tup (by decide +kernel) (pa_cons (pv 2) pa_nil)) (pa_cons (pv 4) pa_nil))))))))), ?_⟩
    rcases q with ⟨z, rfl, hz, hI, q⟩ | ⟨t, ty, kt, q⟩
    rotate_left
    · exact ⟨_, rfl, v, rfl, .inr ⟨t, ty, kt, q⟩⟩
    refine ⟨_, rfl, .str z, rfl, .inl ⟨z, rfl, hz, fun R H1 hR0 s1 h1 => ?_⟩⟩
    have hS : Snt (tokz z) := snt_toks hz
    have hk0 : 0 < (tokz z).length := by unfold tokz; rw [List.length_append, List.length_singleton]; omega
    generalize tokz z = ts at h1 hS hk0 hI q
    have sA : Str.ofString "array" = ⟨tARRAY.toArray⟩ := by decide +kernel
    have hsm : ∀ j, (tk ts j).length ≤ 100000 := fun j => by have := hS.sm j; omega
    refine ⟨Nat.zero_le _, fun al hal => ?_⟩
    have q0 := EndsZ.but (C := C) (ts := ts) q hR0 s1
    clear q
    have q := q0
    clear q0
    refine ⟨fun m σ H' => ∃ (k1 : Nat) (as : List (List Nat × List Int)) (us : List V) (v3 : Option V), σ = [some (.str z), some (.ref R), some (.ref al), v3, none] ∧ RdAt C H' R ts k1 ∧ k1 < ts.length ∧ ButR R H1 H' ∧ H' al = some (.lst us) ∧ us.length ≤ k1 ∧ Paired (FacAt K H') us as ∧ ts.length ≤ k1 + m ∧ arraysM ts m k1 as = arraysM ts ts.length 0 [],
      ⟨ts.length, 0, [], [], none, rfl, h1.same (Same.new hal), hk0, ButR.of (Same.new hal), upd_same, Nat.zero_le _, .nil, by omega, rfl⟩, ?_⟩
    rintro m σ H2 ⟨k1, as, us, v3, rfl, h2, hk1, b2, hl2, hu2, ha2, hf2, eM⟩
    obtain ⟨dx2, l2, hR2, ho2, hL2⟩ := id h2
    obtain ⟨f1, rfl⟩ : ∃ f', m = f' + 1 := ⟨m - 1, by omega⟩
    by_cases hA : tk ts k1 = tARRAY
    · have eA : arraysM ts (f1 + 1) k1 as = if isNmL (tk ts (k1 + 1)) = true then (sizeM ts (k1 + 2)).bind fun sz j => arraysM ts f1 j (as ++ [(tk ts (k1 + 1), sz)]) else .syn (ps ts (k1 + 1)) := by
        show (if tk ts k1 = tARRAY then _ else _) = _
        rw [if_pos hA]
      rw [eA] at eM
      have hk2 := hS.go k1 hk1 (by rw [hA]; simp)
      refine ⟨_, rfl, R, dx2, _, rfl, hR2, rfl, R, ts, k1, _, _, rfl, h2, at_tk hk1, .inr ⟨by rw [sA, hA], fun H3 h3 b3 => ⟨true, rfl, ?_⟩⟩⟩
      refine iteT ⟨fun σ' H' => ∃ (k1 : Nat) (as : List (List Nat × List Int)) (us : List V) (v3 : Option V), σ' = [some (.str z), some (.ref R), some (.ref al), v3, none] ∧ RdAt C H' R ts k1 ∧ k1 < ts.length ∧ ButR R H1 H' ∧ H' al = some (.lst us) ∧ us.length ≤ k1 ∧ Paired (FacAt K H') us as ∧ ts.length ≤ k1 + f1 ∧ arraysM ts f1 k1 as = arraysM ts ts.length 0 [],
        fun σ' H' h => ⟨f1, Nat.lt_succ_self f1, h⟩, ?_⟩
      obtain ⟨dx3, l3, hR3, _⟩ := id h3
      have nR2 : al ≠ R := fun n => by rw [n, hR2] at hl2; cases hl2
      have hl3 := b3 _ _ hl2 nR2
      have kp3 := ButR.kp hR2 b3
      by_cases hN : isNmL (tk ts (k1 + 1)) = true
      · rw [if_pos hN] at eM
        refine ⟨_, rfl, R, ts, k1 + 1, _, rfl, h3, at_tk hk2, hsm _, .inl ⟨hN, fun H4 h4 b4 => ?_⟩⟩
        obtain ⟨dx4, l4, hR4, _⟩ := id h4
        have hl4 := b4 _ _ hl3 nR2
        have kp4 := ButR.kp hR3 b4
        have ne1 : tk ts (k1 + 1) ≠ [] := fun e => by rw [e] at hN; exact absurd hN (by decide +kernel)
        have hk3 := hS.go (k1 + 1) hk2 ne1
        refine ⟨_, rfl, .inl ⟨rfl, _, .of hl4⟩, _, rfl, _, rfl, R, ts, k1 + 2, rfl, h4, hk3, hS, ?_⟩
        have bb4 := (b2.trans b3).trans b4
        cases hm : sizeM ts (k1 + 2) with
        | syn p =>
          rw [hm] at eM
          unfold parseM at q
          rw [← eM] at q
          exact Out.but (show Out CS R H1 p E from q) bb4
        | big w =>
          rw [hm] at eM
          unfold parseM at q
          rw [← eM] at q
          exact OutW.but (show OutW CT R H1 w E from q) bb4
        | ok sz j =>
          rw [hm] at eM
          have gj := sizeM_gt hm
          rintro x H5 h5 hkj b5 ⟨tz, rfl, hz5⟩
          have hl5 := b5 _ _ hl4 nR2
          have kp5 := ButR.kp hR4 b5
          have fa5 : Paired (FacAt K H5) us as := L2.Paired.mapP ha2 fun _ _ h => FacAt.kp kp5 (FacAt.kp kp4 (FacAt.kp kp3 h))
          refine ⟨lenS (by simp), fun p hp => ?_⟩
          have sP := Same.new (o := .tup [.str ⟨(tk ts (k1 + 1)).toArray⟩, .ref tz]) hp
          have hl6 := sP _ _ hl5
          have fa6 : Paired (FacAt K _) us as := L2.Paired.mapP fa5 fun _ _ h => h.same sP
          refine ⟨al, us, .ref p, rfl, rfl, hl6, Nat.lt_of_le_of_lt (show us.length ≤ 100000 by have := hS.ln; omega) (by decide), ?_⟩
          have far : ∀ x ∈ us, ∀ t : List Nat × Nat, ¬ TokAt _ x t := fun x hx t => by
            obtain ⟨y, hy⟩ := Paired.mem_left fa6 x hx
            exact hy.far t
          have kU := updL.kp (o := .lst (us ++ [.ref p])) hl6
          have npa : p ≠ al := (ne_of_none hl5 hp).symm
          refine ⟨j, as ++ [(tk ts (k1 + 1), sz)], us ++ [.ref p], _, rfl, (h5.same sP).updL hkj hl6 far, hkj, ?_, upd_same, by rw [List.length_append, List.length_singleton]; omega, ?_, by omega, eM⟩
          · intro b o e n
            rw [upd_ne (ne_of_none e hal)]
            exact sP _ _ (b5 _ _ (bb4 _ _ e n) n)
          · exact (L2.Paired.mapP fa6 fun _ _ h => h.kp kU).snoc ⟨p, tz, rfl, by rw [upd_ne npa, upd_same], SqT.kp kU (sP.tup hz5)⟩
      · rw [if_neg hN] at eM
        unfold parseM at q
        rw [← eM] at q
        refine ⟨_, rfl, R, ts, k1 + 1, _, rfl, h3, at_tk hk2, hsm _, .inr ⟨Bool.eq_false_iff.mpr hN, ?_⟩⟩
        exact Out.but (show Out CS R H1 (ps ts (k1 + 1)) E from q) (b2.trans b3)
    · have eA : arraysM ts (f1 + 1) k1 as = .ok as k1 := by
        show (if tk ts k1 = tARRAY then _ else _) = _
        rw [if_neg hA]
      rw [eA] at eM
      unfold parseM at q
      rw [← eM] at q
      have q : Ends' C CS CT R H1 ts (TreeOk K) ((blockM ts ts.length 0 k1 .nil).bind fun b j => endM ts (as, b) j) Q E := q
      have q := Ends'.but q b2
      refine ⟨_, rfl, R, dx2, _, rfl, hR2, rfl, R, ts, k1, _, _, rfl, h2, at_tk hk1, .inl ⟨fun z => hA (by rw [sA] at z; injection z with z; simpa using z), false, rfl, iteF ?_⟩⟩
      refine ⟨_, rfl, R, ts, k1, ts.length, rfl, h2, hk1, hS, hI, by omega, ?_⟩
      cases hm : blockM ts ts.length 0 k1 .nil with
      | syn p => rw [hm] at q; exact q
      | big w => rw [hm] at q; exact q
      | ok b j =>
        rw [hm] at q
        have q : Ends' C CS CT R H2 ts (TreeOk K) (if tk ts j = [] then .ok (as, b) j else .syn (ps ts j)) Q E := q
        rintro x H3 h3 hkj b3 ⟨tb, ub, rfl, htb, hbk⟩
        have q := Ends'.but q b3
        obtain ⟨dx3, l3, hR3, _⟩ := id h3
        have nR2 : al ≠ R := fun n => by rw [n, hR2] at hl2; cases hl2
        have hl3 := b3 _ _ hl2 nR2
        have kp3 := ButR.kp hR2 b3
        have fa3 : Paired (FacAt K H3) us as := L2.Paired.mapP ha2 fun _ _ h => FacAt.kp kp3 h
        by_cases hE : tk ts j = []
        · rw [if_pos hE] at q
          refine ⟨_, rfl, R, dx3, _, rfl, hR3, rfl, R, ts, j, _, rfl, h3, at_tk hkj, .inl ⟨hE, ?_⟩⟩
          refine ⟨_, rfl, al, us, rfl, .inl ⟨.of hl3, fun ta hta => ?_⟩⟩
          have sA1 := Same.new (o := .tup us) hta
          refine ⟨_, rfl, lenS (by simp), fun p hp => ?_⟩
          have sA2 := Same.new (o := .tup [.ref ta, .ref tb]) hp
          refine q (.ref p) _ (h3.same (sA1.trans sA2)) hkj (ButR.of (sA1.trans sA2)) ⟨p, ta, tb, us, ub, rfl, upd_same, sA2.tup (.of upd_same), L2.Paired.mapP fa3 fun _ _ h => h.same (sA1.trans sA2), (sA1.trans sA2).tup htb, BkOk.kp (Same.kp (sA1.trans sA2)) b ub hbk⟩
        · rw [if_neg hE] at q
          exact ⟨_, rfl, R, dx3, _, rfl, hR3, rfl, R, ts, j, _, rfl, h3, at_tk hkj, .inr ⟨hE, q⟩⟩
end

end K02

namespace K02
open PySem L2 SZ VR VX StX RT
/-! ### texts made of pieces -/
/-- pieces of a text, and what they are as tokens from a on -/
def itemToks : List (List Nat) → Nat → List (List Nat × Nat)
  | [], _ => []
  | it :: r, a => (if it = [32] ∨ it = [10] then [] else [(it, a)]) ++ itemToks r (a + it.length)
/-- a sign, or a run behind which none goes on -/
def GoodIt : List (List Nat) → Prop
  | [] => True
  | it :: r => ((∃ c, it = [c] ∧ an c = false) ∨ (it ≠ [] ∧ it.all an = true ∧ ∀ c, r.flatten[0]? = some c → an c = false)) ∧ GoodIt r
theorem gp_iff (c : Nat) : gp c = decide (c = 32 ∨ c = 10) := by
  have e : GAP.cps.toList = [32, 10] := by decide +kernel
  unfold gp
  rw [e, Bool.eq_iff_iff]
  simp
theorem an_ngp {c : Nat} (h : an c = true) : gp c = false := by
  rw [gp_iff]
  refine decide_eq_false fun z => ?_
  have h32 : an 32 = false := by decide +kernel
  have h10 : an 10 = false := by decide +kernel
  rcases z with rfl | rfl
  · rw [h32] at h; cases h
  · rw [h10] at h; cases h
theorem takeWhile_run : ∀ (it r : List Nat), it.all an = true → (∀ c, r[0]? = some c → an c = false) → ((it ++ r).takeWhile an) = it
  | [], [], _, _ => rfl
  | [], c :: r, _, h => by
    rw [List.nil_append, List.takeWhile_cons, h c rfl]
    rfl
  | x :: it, r, h, hr => by
    rw [List.all_cons, Bool.and_eq_true] at h
    rw [List.cons_append, List.takeWhile_cons, h.1, if_pos rfl, takeWhile_run it r h.2 hr]
theorem toks_items : ∀ (its : List (List Nat)) (s : List Nat) (a : Nat), GoodIt its → s.drop a = its.flatten → toks s a = itemToks its a
  | [], s, a, _, e => by
    have hl : ¬ a < s.length := fun h => by
      have := congrArg List.length e
      rw [List.length_drop] at this
      simp at this
      omega
    rw [toks_end hl]
    rfl
  | it :: r, s, a, ⟨h, g⟩, e => by
    rw [List.flatten_cons] at e
    have hne : it ≠ [] := by
      rcases h with ⟨c, rfl, _⟩ | ⟨h, _, _⟩
      · simp
      · exact h
    obtain ⟨c, t, rfl⟩ := List.exists_cons_of_ne_nil hne
    have hc : s[a]? = some c := by
      have := congrArg (fun l => l[0]?) e
      simpa [List.getElem?_drop] using this
    have hl : a < s.length := (List.getElem?_eq_some_iff.mp hc).1
    have ed : s.drop (a + (c :: t).length) = r.flatten := by
      rw [← List.drop_drop, e, List.drop_append_of_le_length (Nat.le_refl _), List.drop_length, List.nil_append]
    have ih := toks_items r s (a + (c :: t).length) g ed
    rcases h with ⟨c', e', hc'⟩ | ⟨_, ha, hr⟩
    · have e1 : c = c' ∧ t = [] := by simpa using e'
      obtain ⟨rfl, rfl⟩ := e1
      have en : nxt s a = a + 1 := by
        unfold nxt
        rw [runE_stop hc hc']
        omega
      by_cases hg : gp c = true
      · rw [toks_gap hc hg, en]
        have : [c] = [32] ∨ [c] = [10] := by
          rw [gp_iff, decide_eq_true_iff] at hg
          rcases hg with rfl | rfl
          · exact .inl rfl
          · exact .inr rfl
        show _ = (if [c] = [32] ∨ [c] = [10] then [] else [([c], a)]) ++ itemToks r (a + 1)
        rw [if_pos this]
        exact ih
      · have hg' : gp c = false := Bool.eq_false_iff.mpr hg
        rw [toks_tok hc hg', en]
        have : ¬ ([c] = [32] ∨ [c] = [10]) := fun z => hg (by
          rw [gp_iff, decide_eq_true_iff]
          simpa using z)
        show _ = (if [c] = [32] ∨ [c] = [10] then [] else [([c], a)]) ++ itemToks r (a + 1)
        rw [if_neg this, e]
        have e2 : a + 1 - a = 1 := by omega
        rw [e2]
        exact congrArg _ ih
    · have hac : an c = true := by
        rw [List.all_cons, Bool.and_eq_true] at ha
        exact ha.1
      have er : runE s a = a + (c :: t).length := by
        unfold runE
        rw [e, takeWhile_run _ _ ha hr]
      have en : nxt s a = a + (c :: t).length := by
        unfold nxt
        rw [er]
        simp only [List.length_cons]
        omega
      have hg' : gp c = false := an_ngp hac
      rw [toks_tok hc hg', en]
      have : ¬ (c :: t = [32] ∨ c :: t = [10]) := fun z => by
        have : c = 32 ∨ c = 10 := by
          rcases z with z | z
          · exact .inl (by simp at z; exact z.1)
          · exact .inr (by simp at z; exact z.1)
        rw [gp_iff] at hg'
        exact absurd this (of_decide_eq_false hg')
      show _ = (if c :: t = [32] ∨ c :: t = [10] then [] else [(c :: t, a)]) ++ itemToks r (a + (c :: t).length)
      rw [if_neg this, e, Nat.add_sub_cancel_left, List.take_append_of_le_length (Nat.le_refl _), List.take_length]
      exact congrArg _ ih

/-! ### the text of k02's law -/
abbrev W1 : List Nat := [97, 114, 114, 97, 121]
def itemsW (w : List Nat) : List (List Nat) := [[97, 114, 114, 97, 121], [32], w, [32], [110], [32], [102, 111, 114], [32], 113 :: w, [32], [110], [32], [123], [32], [114, 101, 97, 100], [32], w, [91], [110], [42], 113 :: w, [93], [32], [125]]
/-- its tokens -/
def wordsW (w : List Nat) : List (List Nat) := [[97, 114, 114, 97, 121], w, [110], [102, 111, 114], 113 :: w, [110], [123], [114, 101, 97, 100], w, [91], [110], [42], 113 :: w, [93], [125], []]
theorem tk_map (ts : List (List Nat × Nat)) (k : Nat) : tk ts k = ((ts.map (·.1))[k]?).getD [] := by
  unfold tk
  rw [List.getElem?_map]
  cases ts[k]? <;> rfl
theorem itemToks_map : ∀ (its : List (List Nat)) (a : Nat), (itemToks its a).map (·.1) = its.filter fun it => !(decide (it = [32]) || decide (it = [10]))
  | [], _ => rfl
  | it :: r, a => by
    have ih := itemToks_map r (a + it.length)
    show ((if it = [32] ∨ it = [10] then [] else [(it, a)]) ++ itemToks r (a + it.length)).map (·.1) = _
    rw [List.map_append, ih, List.filter_cons]
    by_cases h1 : it = [32]
    · rw [if_pos (.inl h1), if_neg (by rw [decide_eq_true h1]; simp)]
      rfl
    · by_cases h2 : it = [10]
      · rw [if_pos (.inr h2), if_neg (by rw [decide_eq_true h2]; simp)]
        rfl
      · rw [if_neg (fun z => z.elim h1 h2), if_pos (by rw [decide_eq_false h1, decide_eq_false h2]; rfl)]
        rfl
theorem part_n {ts : List (List Nat × Nat)} {idx : Bool} {k f : Nat} (h : tk ts k = [110]) (h2 : tk ts (k + 1) ≠ [42]) (hf : ts.length = f + 1) : partM ts idx k = .ok (1, 1, []) (k + 1) := by
  have n : isN (tk ts k) ≠ true := by rw [h]; decide +kernel
  unfold partM
  rw [if_neg n, hf]
  show partFin 1 (if tk ts k = [110] then (if tk ts (k + 1) = [42] then _ else .ok (0 + 1, []) (k + 1)) else _) = _
  rw [if_pos h, if_neg h2]
  rfl
theorem size_n {ts : List (List Nat × Nat)} {k f : Nat} (h : tk ts k = [110]) (h2 : tk ts (k + 1) ≠ [42]) (h3 : tk ts (k + 1) ≠ [43]) (h4 : tk ts (k + 1) ≠ [45]) (hf : ts.length = f + 1) : sizeM ts k = .ok [0, 1] (k + 1) := by
  have e : sumsM ts false k = .ok [([], [0, 1])] (k + 1) := by
    unfold sumsM
    rw [if_neg (by rw [h]; decide), hf]
    show (match partM ts false k with | .syn p => Res.syn p | .big w => .big w | .ok v k' => if tk ts k' = [43] then sumsLoop ts false f (k' + 1) 1 (addC [([], [])] v.2.2 (partC (1 * v.1) v.2.1)) else if tk ts k' = [45] then sumsLoop ts false f (k' + 1) (-1) (addC [([], [])] v.2.2 (partC (1 * v.1) v.2.1)) else .ok (addC [([], [])] v.2.2 (partC (1 * v.1) v.2.1)) k') = _
    rw [part_n h h2 hf]
    show (if tk ts (k + 1) = [43] then _ else if tk ts (k + 1) = [45] then _ else Res.ok (addC [([], [])] [] (partC (1 * 1) 1)) (k + 1)) = _
    rw [if_neg h3, if_neg h4]
    rfl
  unfold sizeM
  rw [e]
  rfl
theorem idx_nq {ts : List (List Nat × Nat)} {k f : Nat} {c : List Nat} (h : tk ts k = [110]) (h2 : tk ts (k + 1) = [42]) (h3 : tk ts (k + 2) = c) (hc : isNmL c = true) (hn : c ≠ [110]) (h4 : tk ts (k + 3) = [93]) (hf : ts.length = f + 2) : sumsM ts true k = .ok [([], []), (c, [0, 1])] (k + 3) := by
  have e1 : partM ts true k = .ok (1, 1, c) (k + 3) := by
    have n : isN (tk ts k) ≠ true := by rw [h]; decide +kernel
    unfold partM
    rw [if_neg n, hf]
    show partFin 1 (if tk ts k = [110] then (if tk ts (k + 1) = [42] then (if tk ts (k + 2) = [110] then _ else if true = true ∧ isNmL (tk ts (k + 2)) = true then .ok (0 + 1, tk ts (k + 2)) (k + 2 + 1) else _) else _) else _) = _
    rw [if_pos h, if_pos h2, h3, if_neg hn, if_pos ⟨rfl, hc⟩]
    rfl
  have cn : ¬ ([] : List Nat) = c := fun e => by rw [← e] at hc; exact absurd hc (by decide +kernel)
  unfold sumsM
  rw [if_neg (by rw [h]; decide), hf]
  show (match partM ts true k with | .syn p => Res.syn p | .big w => .big w | .ok v k' => if tk ts k' = [43] then sumsLoop ts true (f + 1) (k' + 1) 1 (addC [([], [])] v.2.2 (partC (1 * v.1) v.2.1)) else if tk ts k' = [45] then sumsLoop ts true (f + 1) (k' + 1) (-1) (addC [([], [])] v.2.2 (partC (1 * v.1) v.2.1)) else .ok (addC [([], [])] v.2.2 (partC (1 * v.1) v.2.1)) k') = _
  rw [e1]
  show (if tk ts (k + 3) = [43] then _ else if tk ts (k + 3) = [45] then _ else Res.ok (addC [([], [])] c (partC (1 * 1) 1)) (k + 3)) = _
  rw [h4, if_neg (by decide), if_neg (by decide)]
  have e2 : addC [([], [])] c (partC (1 * 1) 1) = [([], []), (c, [0, 1])] := by
    show (if ([] : List Nat) = c then _ else ([], []) :: addC [] c (partC (1 * 1) 1)) = _
    rw [if_neg cn]
    rfl
  rw [e2]
theorem q_nm {w : List Nat} (h : w.all an = true) : isNmL (113 :: w) = true := by
  have h1 : isW (113 :: w) = true := by
    show (lc 113 && w.all an) = true
    rw [h]; decide +kernel
  have key : ∀ k ∈ KW, k.cps.toList[0]? ≠ some 113 := by decide +kernel
  have h2 : KW.contains (⟨(113 :: w).toArray⟩ : Str) = false := by
    rw [Bool.eq_false_iff]
    intro hk
    rw [List.contains_iff_mem] at hk
    exact key _ hk rfl
  show (isW (113 :: w).toArray.toList && !KW.contains (⟨(113 :: w).toArray⟩ : Str)) = true
  rw [h2, h1]
  rfl
theorem parse_W {w : List Nat} {ts : List (List Nat × Nat)} (hts : ts.map (·.1) = wordsW w) (hw : isNmL w = true) (ha : w.all an = true) : ∃ b j, parseM ts = .ok ([(w, [0, 1])], b) j := by
  have hq := q_nm ha
  have hqn : (113 :: w) ≠ [110] := by simp
  have hl : ts.length = 16 := by rw [← List.length_map (f := (·.1)), hts]; rfl
  have t0 : tk ts 0 = tARRAY := by rw [tk_map, hts]; rfl
  have t1 : tk ts 1 = w := by rw [tk_map, hts]; rfl
  have t2 : tk ts 2 = [110] := by rw [tk_map, hts]; rfl
  have t3 : tk ts 3 = tFOR := by rw [tk_map, hts]; rfl
  have t4 : tk ts 4 = 113 :: w := by rw [tk_map, hts]; rfl
  have t5 : tk ts 5 = [110] := by rw [tk_map, hts]; rfl
  have t6 : tk ts 6 = [123] := by rw [tk_map, hts]; rfl
  have t7 : tk ts 7 = tREAD := by rw [tk_map, hts]; rfl
  have t8 : tk ts 8 = w := by rw [tk_map, hts]; rfl
  have t9 : tk ts 9 = [91] := by rw [tk_map, hts]; rfl
  have t10 : tk ts 10 = [110] := by rw [tk_map, hts]; rfl
  have t11 : tk ts 11 = [42] := by rw [tk_map, hts]; rfl
  have t12 : tk ts 12 = 113 :: w := by rw [tk_map, hts]; rfl
  have t13 : tk ts 13 = [93] := by rw [tk_map, hts]; rfl
  have t14 : tk ts 14 = [125] := by rw [tk_map, hts]; rfl
  have t15 : tk ts 15 = [] := by rw [tk_map, hts]; rfl
  clear hts
  have s2 : sizeM ts 2 = .ok [0, 1] 3 := size_n (f := 15) t2 (by rw [t3]; decide) (by rw [t3]; decide) (by rw [t3]; decide) hl
  have s5 : sizeM ts 5 = .ok [0, 1] 6 := size_n (f := 15) t5 (by rw [t6]; decide) (by rw [t6]; decide) (by rw [t6]; decide) hl
  have s10 : sumsM ts true 10 = .ok [([], []), (113 :: w, [0, 1])] 13 := idx_nq (f := 14) t10 t11 t12 hq hqn t13 hl
  have eA : arraysM ts 16 0 [] = .ok [(w, [0, 1])] 3 := by
    show (if tk ts 0 = tARRAY then (if isNmL (tk ts 1) = true then (sizeM ts 2).bind fun sz j => arraysM ts 15 j ([] ++ [(tk ts 1, sz)]) else _) else _) = _
    rw [if_pos t0, t1, if_pos hw, s2]
    show (if tk ts 3 = tARRAY then _ else Res.ok [(w, [0, 1])] 3) = _
    rw [if_neg (by rw [t3]; decide)]
  have eR : ∀ f acc, blockM ts (f + 2) 1 7 acc = .ok (.snoc acc (.acc tREAD w [([], []), (113 :: w, [0, 1])])) 14 := fun f acc => by
    have e1 : stmM ts (fun L' k' => blockM ts (f + 1) L' k' .nil) 1 7 = .ok (.acc tREAD w [([], []), (113 :: w, [0, 1])]) 14 := by
      unfold stmM
      rw [if_neg (by rw [t7]; decide), if_neg (by rw [t7]; decide)]
      show (if isNmL (tk ts 8) = true then (if tk ts 9 = [91] then (sumsM ts true 10).bind fun cs j => if tk ts j = [93] then Res.ok (Stm.acc (tk ts 7) (tk ts 8) cs) (j + 1) else Res.syn (ps ts j) else _) else _) = _
      rw [t8, if_pos hw, if_pos t9, s10]
      show (if tk ts 13 = [93] then Res.ok (Stm.acc (tk ts 7) w [([], []), (113 :: w, [0, 1])]) 14 else _) = _
      rw [if_pos t13, t7]
    show (if tk ts 7 ∈ STs then (stmM ts (fun L' k' => blockM ts (f + 1) L' k' .nil) 1 7).bind fun s j => blockM ts (f + 1) 1 j (.snoc acc s) else _) = _
    rw [if_pos (by rw [t7]; decide), e1]
    show (if tk ts 14 ∈ STs then _ else Res.ok _ 14) = _
    rw [if_neg (by rw [t14]; decide)]
  have eB : ∃ b, blockM ts 16 0 3 .nil = .ok b 15 := by
    have e1 : stmM ts (fun L' k' => blockM ts 15 L' k' .nil) 0 3 = .ok (.loop (113 :: w) [0, 1] (.snoc .nil (.acc tREAD w [([], []), (113 :: w, [0, 1])]))) 15 := by
      unfold stmM
      rw [if_neg (by rw [t3]; decide), if_pos t3]
      unfold loopM
      show (if isNmL (tk ts 4) = true then (sizeM ts 5).bind fun sz j => if tk ts j = [123] then (if 5 ≤ 0 then .big "nesting" else (blockM ts 15 1 (j + 1) .nil).bind fun b i => if tk ts i = [125] then Res.ok (Stm.loop (tk ts 4) sz b) (i + 1) else Res.syn (ps ts i)) else Res.syn (ps ts j) else _) = _
      rw [t4, if_pos hq, s5]
      show (if tk ts 6 = [123] then (if 5 ≤ 0 then .big "nesting" else (blockM ts 15 1 7 .nil).bind fun b i => if tk ts i = [125] then Res.ok (Stm.loop (113 :: w) [0, 1] b) (i + 1) else .syn (ps ts i)) else _) = _
      rw [if_pos t6, if_neg (by decide), eR 13 .nil]
      show (if tk ts 14 = [125] then _ else _) = _
      rw [if_pos t14]
    refine ⟨.snoc .nil (.loop (113 :: w) [0, 1] (.snoc .nil (.acc tREAD w [([], []), (113 :: w, [0, 1])]))), ?_⟩
    show (if tk ts 3 ∈ STs then (stmM ts (fun L' k' => blockM ts 15 L' k' .nil) 0 3).bind fun s j => blockM ts 15 0 j (.snoc .nil s) else _) = _
    rw [if_pos (by rw [t3]; decide), e1]
    show (if tk ts 15 ∈ STs then _ else Res.ok _ 15) = _
    rw [if_neg (by rw [t15]; decide)]
  obtain ⟨b, eB⟩ := eB
  refine ⟨b, 15, ?_⟩
  unfold parseM
  rw [hl, eA]
  show (blockM ts 16 0 3 .nil).bind (fun b j => endM ts ([(w, [0, 1])], b) j) = _
  rw [eB]
  show (if tk ts 15 = [] then _ else _) = _
  rw [if_pos t15]
theorem parse_K {w : List Nat} {ts : List (List Nat × Nat)} (hts : ts.map (·.1) = wordsW w) (hw : isNmL w = false) : parseM ts = .syn (ps ts 1) := by
  have hl : ts.length = 16 := by rw [← List.length_map (f := (·.1)), hts]; rfl
  have t0 : tk ts 0 = tARRAY := by rw [tk_map, hts]; rfl
  have t1 : tk ts 1 = w := by rw [tk_map, hts]; rfl
  have eA : arraysM ts 16 0 [] = .syn (ps ts 1) := by
    show (if tk ts 0 = tARRAY then (if isNmL (tk ts 1) = true then (sizeM ts 2).bind fun sz j => arraysM ts 15 j ([] ++ [(tk ts 1, sz)]) else Res.syn (ps ts 1)) else _) = _
    rw [if_pos t0, t1, hw, if_neg (by decide)]
  unfold parseM
  rw [hl, eA]
  rfl
theorem sumsLoop_len {ts : List (List Nat × Nat)} {idx : Bool} : ∀ (f k : Nat) (sg : Int) (cs cs' : List (List Nat × List Int)) (k' : Nat), sumsLoop ts idx f k sg cs = .ok cs' k' → cs'.length ≤ cs.length + f
  | 0, _, _, _, _, _, h => by cases h
  | f + 1, k, sg, cs, cs', k', h => by
    unfold sumsLoop at h
    cases hp : partM ts idx k with
    | syn p => rw [hp] at h; cases h
    | big w => rw [hp] at h; cases h
    | ok v j =>
      rw [hp] at h
      have h : (if tk ts j = [43] then sumsLoop ts idx f (j + 1) 1 (addC cs v.2.2 (partC (sg * v.1) v.2.1)) else if tk ts j = [45] then sumsLoop ts idx f (j + 1) (-1) (addC cs v.2.2 (partC (sg * v.1) v.2.1)) else .ok (addC cs v.2.2 (partC (sg * v.1) v.2.1)) j) = .ok cs' k' := h
      have g := addC_length v.2.2 (partC (sg * v.1) v.2.1) cs
      split at h
      · have := sumsLoop_len f _ _ _ _ _ h
        omega
      · split at h
        · have := sumsLoop_len f _ _ _ _ _ h
          omega
        · cases h
          omega
theorem sumsM_len {ts : List (List Nat × Nat)} {idx : Bool} {k k' : Nat} {cs : List (List Nat × List Int)} (h : sumsM ts idx k = .ok cs k') : cs.length ≤ 1 + ts.length := by
  unfold sumsM at h
  split at h
  · have := sumsLoop_len _ _ _ _ _ _ h
    simp only [List.length_singleton] at this
    exact this
  · have := sumsLoop_len _ _ _ _ _ _ h
    simp only [List.length_singleton] at this
    exact this
theorem good_W {w : List Nat} (ha : w.all an = true) (hne : w ≠ []) : GoodIt (itemsW w) := by
  have s : ∀ c, an c = false → ∀ r, GoodIt r → GoodIt ([c] :: r) := fun c h r g => ⟨.inl ⟨c, rfl, h⟩, g⟩
  have r1 : ∀ (it : List Nat) (c : Nat) (r : List (List Nat)), it ≠ [] → it.all an = true → an c = false → GoodIt ([c] :: r) → GoodIt (it :: [c] :: r) := fun it c r h1 h2 h3 g => ⟨.inr ⟨h1, h2, fun d hd => by
    have e : d = c := by
      have : ([c] :: r).flatten[0]? = some c := rfl
      rw [this] at hd
      exact (Option.some.inj hd).symm
    rw [e]; exact h3⟩, g⟩
  have n32 : an 32 = false := by decide +kernel
  have n123 : an 123 = false := by decide +kernel
  have n91 : an 91 = false := by decide +kernel
  have n42 : an 42 = false := by decide +kernel
  have n93 : an 93 = false := by decide +kernel
  have n125 : an 125 = false := by decide +kernel
  have hq : (113 :: w).all an = true := by rw [List.all_cons, ha]; decide +kernel
  have hqn : (113 :: w) ≠ [] := by simp
  unfold itemsW
  refine r1 _ _ _ (by simp) (by decide +kernel) n32 (s _ n32 _ ?_)
  refine r1 _ _ _ hne ha n32 (s _ n32 _ ?_)
  refine r1 _ _ _ (by simp) (by decide +kernel) n32 (s _ n32 _ ?_)
  refine r1 _ _ _ (by simp) (by decide +kernel) n32 (s _ n32 _ ?_)
  refine r1 _ _ _ hqn hq n32 (s _ n32 _ ?_)
  refine r1 _ _ _ (by simp) (by decide +kernel) n32 (s _ n32 _ ?_)
  refine s _ n123 _ (s _ n32 _ ?_)
  refine r1 _ _ _ (by simp) (by decide +kernel) n32 (s _ n32 _ ?_)
  refine r1 _ _ _ hne ha n91 (s _ n91 _ ?_)
  refine r1 _ _ _ (by simp) (by decide +kernel) n42 (s _ n42 _ ?_)
  refine r1 _ _ _ hqn hq n93 (s _ n93 _ ?_)
  exact s _ n32 _ (s _ n125 _ trivial)
/-- the tokens of the text with w -/
theorem toks_W {w : List Nat} {s : List Nat} {n : Nat} (ha : w.all an = true) (hne : w ≠ []) (hs : s = (itemsW w).flatten) : ((toks s 0 ++ [([], n)]).map Prod.fst : List (List Nat)) = wordsW w := by
  rw [toks_items (itemsW w) s 0 (good_W ha hne) (by rw [List.drop_zero, hs]), List.map_append, itemToks_map]
  have nw : ∀ c, an c = false → w ≠ [c] := fun c hc e => by
    rw [e] at ha
    simp only [List.all_cons, List.all_nil, Bool.and_true] at ha
    rw [hc] at ha
    cases ha
  have w1 := nw 32 (by decide +kernel)
  have w2 := nw 10 (by decide +kernel)
  have fw : (!(decide (w = [32]) || decide (w = [10]))) = true := by rw [decide_eq_false w1, decide_eq_false w2]; rfl
  simp only [itemsW, List.filter_cons, fw]
  simp
  rfl

end K02

namespace K02
open PySem L2 SZ VR VX StX RT
/-! ### the draws -/
structure Bn2 (mg : Str → Option Value) : Prop where
  len : mg "len" = none
  int : mg "int" = none
  abs : mg "abs" = none
/-- a pool stands at a -/
def PoolAt (H : Hp) (a : Addr) : Prop := ∃ p q : Int, H a = some (.lst [.int p, .int q]) ∧ 0 ≤ p
theorem b01 (b : Bool) : -(2 ^ 64) < (if b = true then (1 : Int) else 0) ∧ (if b = true then (1 : Int) else 0) < 2 ^ 64 := by cases b <;> decide
theorem nn01 (c : Int) (b : Bool) : 0 ≤ (if c < 0 then -c else c) * (if b = true then (1 : Int) else 0) := by
  refine Int.mul_nonneg ?_ ?_
  · split <;> omega
  · cases b <;> decide
def spPool (K : PySem.W.Frag) : Sp := fun vs H Q _ => ∃ (a : Addr) (ns : List Int) (k : Nat), vs = [.ref a, .int k] ∧ SqL K H a (iz ns) ∧ k ≤ 63 ∧ ns.length ≤ 63 ∧ ∀ p H', H p = none → Same H H' → PoolAt H' p → Q (.ref p) H'
def spTake : Sp := fun vs H Q _ => ∃ (a : Addr) (wd : Int), vs = [.ref a, .int wd] ∧ PoolAt H a ∧ 0 < wd ∧ wd < 1073741824 ∧ ∀ (r : Int) (H' : Hp), 0 ≤ r → r < wd → PoolAt H' a → (∀ b o, H b = some o → b ≠ a → H' b = some o) → (∀ b, H b = none → H' b = none) → Q (.int r) H'
section
variable {P : Program} {w : World} {K : PySem.W.Frag} {mg : Str → Option Value} {base : Heap}
theorem ok_pool {f : Addr} {fd : FuncData} (F : Fun K "_law_pool" "_law_pool" S_law_pool f fd) (B : Bn2 mg) : FnOk P w K mg base CX0 1 f fd ["_law_script", "_law_k"] (spPool K) := by
  refine F.ok sc_law_pool (fun vs H Q E h => ?_) (fun cdv A outer s H vs Q E hr h => ?_)
  · obtain ⟨a, ns, k, rfl, _⟩ := h; rfl
  · obtain ⟨a, ns, k, rfl, ha, hk, hl, q⟩ := h
    refine ⟨_, pss_cons (ps_set (i := 2) sc_law_pool.nd rfl (Or.inl rfl) pe_int)
      (pss_cons (ps_if (pt_cmpR op_lt (pv 1) (pe_callB call_len_seq (by rfl) B.len PySem.boot_len (pa_cons (pv 0) pa_nil)) (nomark _)) (pss_one (ps_set (i := 2) sc_law_pool.nd rfl (Or.inl rfl) (pe_ix ix_list (pv 0) (pv 1) (fun _ _ => rfl)))) pss_nil)
      (pss_cons (ps_set (i := 3) sc_law_pool.nd rfl (Or.inl rfl) (pe_callB call_abs (by rfl) B.abs (by decide +kernel) (pa_cons (pv 2) pa_nil)))
      (pss_cons (ps_set (i := 4) sc_law_pool.nd rfl (Or.inl rfl) (pe_op op_mod (pe_op op_mul (pe_callTy call_int1 (by rfl) B.int (by decide +kernel) (pa_cons (pe_op op_add (pe_op op_mod (pe_callTy call_int1 (by rfl) B.int (by decide +kernel) (pa_cons (pv 2) pa_nil)) pe_int) (pe_op op_mul pe_int (pe_op op_add (pv 1) pe_int))) pa_nil)) (pe_op op_add (pv 1) pe_int)) pe_int))
      (pss_cons (ps_set (i := 5) sc_law_pool.nd rfl (Or.inl rfl) (pe_op op_mod (pe_op op_mul (pe_op op_mod (pe_callTy call_int1 (by rfl) B.int (by decide +kernel) (pa_cons (pe_op op_mul (pv 4) (pv 4)) pa_nil)) pe_int) pe_int) pe_int))
      (pss_one (ps_ret (pe_lst (pa_cons (pe_op op_mul (pv 3) (pe_callTy call_int1 (by rfl) B.int (by decide +kernel) (pa_cons (pe_cmpR op_ge (pv 3) (pe_op op_pow pe_int pe_int) (nomark _)) pa_nil))) (pa_cons (pv 5) pa_nil))))))))), ?_⟩
    refine ⟨_, rfl, _, rfl, a, iz ns, rfl, .inl ha, _, _, rfl, rfl, _, rfl, ?_⟩
    rw [iz_len]
    have m0 : (0 : Int) < 2147483629 := by decide
    have m1 : (0 : Int) < 2147483647 := by decide
    refine ite2 (fun h => ?_) (fun h => ?_)
    · have hlt : k < ns.length := by have := of_decide_eq_true h; omega
      have hx : ns[k]? = some ns[k] := List.getElem?_eq_getElem hlt
      refine ⟨_, rfl, _, rfl, a, iz ns, _, _, rfl, rfl, ha, at_of (j := k) rfl (iz_get hx), ?_⟩
      generalize ns[k] = c
      refine ⟨_, rfl, c, rfl, ?_⟩
      refine ⟨_, rfl, .inl ⟨_, rfl, _, _, rfl, rfl, m0, _, rfl, _, _, rfl, rfl, _, _, rfl, rfl, .inl ⟨by decide, by decide⟩, _, _, rfl, rfl, .inl ⟨_, rfl, _, rfl, _, _, rfl, rfl, _, _, rfl, rfl, .inr ⟨by omega, by omega⟩, _, _, rfl, rfl, m0, ?_⟩⟩⟩
      have b0 := Int.emod_nonneg ((c % 2147483629 + 104729 * ((k : Int) + 1)) * ((k : Int) + 7)) (Int.ne_of_gt m0)
      have b1 := Int.emod_lt_of_pos ((c % 2147483629 + 104729 * ((k : Int) + 1)) * ((k : Int) + 7)) m0
      generalize (c % 2147483629 + 104729 * ((k : Int) + 1)) * ((k : Int) + 7) % 2147483629 = bl at b0 b1
      refine ⟨_, rfl, _, rfl, _, _, rfl, rfl, .inl ⟨by omega, by omega⟩, .inl ⟨_, rfl, _, _, rfl, rfl, m0, _, _, rfl, rfl, .inr ⟨by decide, by decide⟩, _, _, rfl, rfl, m1, ?_⟩⟩
      refine ⟨_, rfl, _, rfl, _, _, rfl, rfl, ⟨by decide, by decide, by decide⟩, _, _, rfl, rfl, .inr ⟨_, rfl, _, _, rfl, rfl, (.inr (b01 _)), _, rfl, by show 2 ≤ sizeLine; decide, fun p hp => q p _ hp (Same.new hp) ⟨_, _, upd_same, nn01 c _⟩⟩⟩
    · refine ⟨_, rfl, (0 : Int), rfl, ?_⟩
      refine ⟨_, rfl, .inl ⟨_, rfl, _, _, rfl, rfl, m0, _, rfl, _, _, rfl, rfl, _, _, rfl, rfl, .inl ⟨by decide, by decide⟩, _, _, rfl, rfl, .inl ⟨_, rfl, _, rfl, _, _, rfl, rfl, _, _, rfl, rfl, .inr ⟨by omega, by omega⟩, _, _, rfl, rfl, m0, ?_⟩⟩⟩
      have b0 := Int.emod_nonneg (((0 : Int) % 2147483629 + 104729 * ((k : Int) + 1)) * ((k : Int) + 7)) (Int.ne_of_gt m0)
      have b1 := Int.emod_lt_of_pos (((0 : Int) % 2147483629 + 104729 * ((k : Int) + 1)) * ((k : Int) + 7)) m0
      generalize ((0 : Int) % 2147483629 + 104729 * ((k : Int) + 1)) * ((k : Int) + 7) % 2147483629 = bl at b0 b1
      refine ⟨_, rfl, _, rfl, _, _, rfl, rfl, .inl ⟨by omega, by omega⟩, .inl ⟨_, rfl, _, _, rfl, rfl, m0, _, _, rfl, rfl, .inr ⟨by decide, by decide⟩, _, _, rfl, rfl, m1, ?_⟩⟩
      refine ⟨_, rfl, _, rfl, _, _, rfl, rfl, ⟨by decide, by decide, by decide⟩, _, _, rfl, rfl, .inr ⟨_, rfl, _, _, rfl, rfl, (.inr (b01 _)), _, rfl, by show 2 ≤ sizeLine; decide, fun p hp => q p _ hp (Same.new hp) ⟨_, _, upd_same, nn01 0 _⟩⟩⟩
end

section
variable {P : Program} {w : World} {K : PySem.W.Frag} {mg : Str → Option Value} {base : Heap}
theorem ok_take {f : Addr} {fd : FuncData} (F : Fun K "_law_take" "_law_take" S_law_take f fd) (B : Bn2 mg) : FnOk P w K mg base CX0 1 f fd ["_law_pool_here", "_law_wide"] spTake := by
  refine F.ok sc_law_take (fun vs H Q E h => ?_) (fun cdv A outer s H vs Q E hr h => ?_)
  · obtain ⟨a, wd, rfl, _⟩ := h; rfl
  · obtain ⟨a, wd, rfl, ⟨p, q, ha, hp⟩, hw, hw2, k⟩ := h
    refine ⟨_, pss_cons (ps_if (pt_cmpR op_gt (pe_ix ix_list (pv 0) pe_int (fun _ _ => rfl)) pe_int (nomark _))
        (pss_cons (ps_set (i := 2) sc_law_take.nd rfl (Or.inl rfl) (pe_op op_mod (pe_callTy call_int1 (by rfl) B.int (by decide +kernel) (pa_cons (pe_ix ix_list (pv 0) pe_int (fun _ _ => rfl)) pa_nil)) (pv 1)))
        (pss_cons (ps_asg (pe_op op_fdiv (pe_ix ix_list (pv 0) pe_int (fun _ _ => rfl)) (pv 1)) (pg_sub (pv 0) pe_int set_list))
        (pss_one (ps_ret (pv 2))))) pss_nil)
      (pss_cons (ps_asg (pe_op op_mod (pe_callTy call_int1 (by rfl) B.int (by decide +kernel) (pa_cons (pe_op op_add (pe_op op_mul (pe_ix ix_list (pv 0) pe_int (fun _ _ => rfl)) pe_int) pe_int) pa_nil)) pe_int) (pg_sub (pv 0) pe_int set_list))
      (pss_one (ps_ret (pe_op op_mod (pe_op op_fdiv (pe_op op_mod (pe_callTy call_int1 (by rfl) B.int (by decide +kernel) (pa_cons (pe_op op_mul (pe_ix ix_list (pv 0) pe_int (fun _ _ => rfl)) (pe_ix ix_list (pv 0) pe_int (fun _ _ => rfl))) pa_nil)) pe_int) pe_int) (pv 1))))), ?_⟩
    have m0 : (0 : Int) < 2147483629 := by decide
    have m1 : (0 : Int) < 2147483647 := by decide
    have L : SqL K H a [.int p, .int q] := .of ha
    refine ⟨_, rfl, a, _, _, .int p, rfl, rfl, L, at_of (j := 0) rfl rfl, _, _, rfl, rfl, _, rfl, ?_⟩
    refine ite2 (fun h => ?_) (fun h => ?_)
    · refine ⟨_, rfl, a, _, _, .int p, rfl, rfl, L, at_of (j := 0) rfl rfl, .inl ⟨_, rfl, _, rfl, _, _, rfl, rfl, hw, ?_⟩⟩
      refine ⟨_, rfl, a, _, _, .int p, rfl, rfl, L, at_of (j := 0) rfl rfl, _, rfl, _, _, rfl, rfl, ⟨hw, hw2⟩, _, rfl, a, _, _, 0, rfl, rfl, ha, rfl, ?_⟩
      refine ⟨_, rfl, k _ _ (Int.emod_nonneg _ (Int.ne_of_gt hw)) (Int.emod_lt_of_pos _ hw) ⟨p / wd, q, upd_same, Int.ediv_nonneg hp (Int.le_of_lt hw)⟩ (fun b o hb hne => by rw [upd_ne hne]; exact hb) (fun b hb => ?_)⟩
      rw [upd_ne (fun e => by rw [e, ha] at hb; cases hb)]; exact hb
    · refine ⟨_, rfl, a, _, _, .int q, rfl, rfl, L, at_of (j := 1) rfl rfl, _, _, rfl, rfl, .inr ⟨by decide, by decide⟩, _, _, rfl, rfl, .inl ⟨_, rfl, _, _, rfl, rfl, m1, ?_⟩⟩
      refine ⟨_, rfl, a, _, _, 1, rfl, rfl, ha, rfl, ?_⟩
      dsimp only [List.set]
      have b0 := Int.emod_nonneg (q * 48271 + 12345) (Int.ne_of_gt m1)
      have b1 := Int.emod_lt_of_pos (q * 48271 + 12345) m1
      generalize (q * 48271 + 12345) % 2147483647 = z at b0 b1
      have L2 : SqL K (upd H a (.lst [.int p, .int z])) a [.int p, .int z] := .of upd_same
      refine ⟨_, rfl, a, _, _, .int z, rfl, rfl, L2, at_of (j := 1) rfl rfl, _, rfl, a, _, _, .int z, rfl, rfl, L2, at_of (j := 1) rfl rfl, _, _, rfl, rfl, .inl ⟨by omega, by omega⟩, .inl ⟨_, rfl, _, _, rfl, rfl, m0, _, _, rfl, rfl, ⟨by decide, by decide⟩, _, rfl, _, _, rfl, rfl, hw, ?_⟩⟩
      refine k _ _ (Int.emod_nonneg _ (Int.ne_of_gt hw)) (Int.emod_lt_of_pos _ hw) ⟨p, z, upd_same, hp⟩ (fun b o hb hne => by rw [upd_ne hne]; exact hb) (fun b hb => ?_)
      rw [upd_ne (fun e => by rw [e, ha] at hb; cases hb)]; exact hb
end

/-! ### the law's own defs -/
/-- the law's names that are Python's own -/
structure LwB (mg : Str → Option Value) : Prop where
  len : mg "len" = none
  int : mg "int" = none
  abs : mg "abs" = none
  rng : mg "range" = none
  rep : mg "repr" = none
  max : mg "max" = none
  min : mg "min" = none
theorem LwB.two {mg : Str → Option Value} (B : LwB mg) : Bn2 mg := ⟨B.len, B.int, B.abs⟩
/-- letters and digits -/
abbrev AN : Str := "abcdefghijklmnopqrstuvwxyz0123456789"
theorem an_iff (c : Nat) : decide (c ∈ (LET ++ Str.ofString "0123456789").cps.toList) = an c := by
  have e : (LET ++ Str.ofString "0123456789").cps.toList = LET.cps.toList ++ DIG.cps.toList := by decide +kernel
  rw [e]
  unfold an lc dg
  rw [Bool.eq_iff_iff]
  simp
theorem isW_cons {c : Nat} {r : List Nat} (h : lc c = true) : isW (c :: r) = (c :: r).all an := by
  have ha : an c = true := by unfold an; rw [h]; rfl
  show (lc c && r.all an) = _
  rw [List.all_cons, ha, h]
theorem eqvAll_strs0 : ∀ xs : List PyData, PyData.eqvAll xs [] = decide (xs = [])
  | [] => by simp [PyData.eqvAll]
  | x :: xs => by simp [PyData.eqvAll]
def strD (c : Nat) : PyData := .str ⟨#[c]⟩
theorem can_strs : ∀ cs : List Nat, (∀ c ∈ cs, c < 1114112) → PyData.canLayAll0 (cs.map strD) = true
  | [], _ => by simp [PyData.canLayAll0]
  | c :: cs, h => by
    rw [List.map_cons, PyData.canLayAll0, can_strs cs (fun d hd => h d (List.mem_cons_of_mem _ hd))]
    have := h c List.mem_cons_self
    simp [strD, PyData.canLay0, PyData.strOk, this]
theorem depth_strs : ∀ cs : List Nat, PyData.depthAll (cs.map strD) = 0
  | [] => by simp [PyData.depthAll]
  | c :: cs => by
    rw [List.map_cons, PyData.depthAll, depth_strs cs]
    simp [strD, PyData.depth]
theorem dp_strs {K : PySem.W.Frag} {H : Hp} : ∀ cs : List Nat, DpAll K H (cs.map fun c => V.str ⟨#[c]⟩) (cs.map strD)
  | [] => .nil
  | c :: cs => .cons (.str _) (dp_strs cs)
/-- every sign is a plain one -/
def Asc (z : Str) : Prop := ∀ c ∈ z.cps.toList, c < 128
def spDue : Sp := fun vs H Q _ => ∃ z : Str, vs = [.str z] ∧ z.length ≤ 50000 ∧ Asc z ∧ ∀ H', Same H H' → Q (.bl (isNm z)) H'
section
variable {P : Program} {w : World} {K : PySem.W.Frag} {mg : Str → Option Value} {base : Heap}
theorem ok_due {f : Addr} {fd : FuncData} (F : Fun K "_law_due" "_law_due" S_law_due f fd) : FnOk P w K mg base CX0 1 f fd ["_law_word_here"] spDue := by
  refine F.ok sc_law_due (fun vs H Q E h => ?_) (fun cdv A outer s H vs Q E hr h => ?_)
  · obtain ⟨z, rfl, _⟩ := h; rfl
  · obtain ⟨z, rfl, hz, hA, q⟩ := h
    have hzL : z.length ≤ sizeLine := zL (by omega)
    refine ⟨_, pss_cons (ps_if (PW.pt (pw_or (pt_cmpR op_in_seq (pv 0) (pe_lst (pa_cons pe_str (pa_cons pe_str (pa_cons pe_str (pa_cons pe_str (pa_cons pe_str (pa_cons pe_str pa_nil))))))) (by rfl)) (pw_or1 (pt_cmpR op_eq (pv 0) pe_str (nomark _))))) (pss_one (ps_ret pe_bl)) pss_nil)
      (pss_cons (ps_set (i := 1) sc_law_due.nd rfl (Or.inr rfl) pe_str)
      (pss_cons (ps_if (pt_cmpR op_notInS (pe_ix ix_str (pv 0) pe_int (fun _ _ => rfl)) (pv 1) (by rfl)) (pss_one (ps_ret pe_bl)) pss_nil)
      (pss_one (ps_ret (pe_cmpR (op_eqD hr.units) (pe_lc (own := [("_law_sign", 2)]) (g := gName 2) (by rfl) sc_law_due.nd (pi_str (pv 0)) (blkOk_by (own := [("_law_sign", 2)]) (N := ["_law_word_here", "_law_letters", "_law_sign"]) (sc := defScope S_law_due) (by decide +kernel)) (fun _ _ _ _ _ => pg_name (i := 2) sc_law_due.nd rfl (Or.inl rfl))
        (fun _ _ _ _ _ => pts_one (pt_cmpR op_notInS (pv 2) (pe_op op_add_str (pv 1) pe_str) (by rfl))) (fun _ _ _ _ _ => pv 2)) (pe_lst pa_nil) (nomark _)))))), ?_⟩
    refine ⟨_, rfl, lenS (by simp), fun p hp => ?_⟩
    have s1 := Same.new (o := .lst (KW.map V.str)) hp
    refine ⟨p, KW.map V.str, rfl, .inl (.of upd_same), rfl, flat_strs _, _, rfl, ?_⟩
    have eI : inV (.str z) (KW.map V.str) = KW.contains z := inV_str z KW
    rw [eI]
    cases hk : KW.contains z with
    | true =>
      have e : isNm z = false := by unfold isNm; rw [hk]; simp
      rw [e] at q
      exact iteT (iteT (q _ s1))
    | false =>
      refine iteF ?_
      have eN : isNm z = isW z.cps.toList := by unfold isNm; rw [hk]; simp
      rw [eN] at q
      refine ⟨_, rfl, rfl, _, rfl, ?_⟩
      cases hs : z.cps.toList with
      | nil =>
        have e := str_nil hs
        subst e
        have q := q _ s1
        rw [hs] at q
        refine iteT ?_
        exact q
      | cons c r =>
        have ne : z ≠ Str.ofString "" := fun e => by
          have e0 : (Str.ofString "").cps.toList = [] := by decide +kernel
          rw [e, e0] at hs
          cases hs
        rw [decide_eq_false (p := V.str z = V.str (Str.ofString "")) (fun e => ne (V.str.inj e))]
        refine iteF ?_
        refine ⟨_, rfl, z, 0, c, rfl, rfl, hzL, by rw [hs]; exact atN (j := 0) rfl, _, rfl, c, LET, rfl, rfl, _, rfl, ?_⟩
        have el : decide (c ∈ LET.cps.toList) = lc c := rfl
        rw [el]
        cases hc : lc c with
        | false =>
          refine iteT ?_
          have q := q _ s1
          rw [hs] at q
          have e1 : isW (c :: r) = false := by show (lc c && r.all an) = false; rw [hc]; rfl
          rw [e1] at q
          exact q
        | true =>
          refine iteF ?_
          refine ⟨_, rfl, z, rfl, fun D hD => lc_it (walk_str (z := z)) (fun i H' => H' D = some (.lst (((z.cps.toList.take i).filter fun c => !an c).map fun c => V.str ⟨#[c]⟩)) ∧ Same H H') ⟨upd_same, s1.trans (Same.new hD)⟩ (fun _ _ _ _ => trivial) ?_ ?_⟩
          · rintro i x H1 H2 hi ⟨hd, s2⟩ ⟨rfl, d, hd2, rfl⟩
            have hl : z.cps.toList[i]? = some d := by rw [Array.getElem?_toList]; exact hd2
            refine ⟨rfl, ?_⟩
            refine ⟨_, rfl, _, rfl, LET, Str.ofString "0123456789", rfl, rfl, by decide +kernel, d, LET ++ Str.ofString "0123456789", rfl, rfl, _, rfl, ?_⟩
            have et : (z.cps.toList.take (i + 1)) = z.cps.toList.take i ++ [d] := by rw [List.take_add_one, hl]; rfl
            rw [an_iff]
            cases ha : an d with
            | true =>
              refine iteF ?_
              refine ⟨?_, s2⟩
              rw [hd, et, List.filter_append, List.filter_cons, ha]
              simp
            | false =>
              refine iteT ?_
              refine ⟨_, rfl, _, hd, ?_, ?_, s2.upd0 (by
                cases e : H D with
                | none => rfl
                | some o =>
                  exact absurd (s1 _ _ e) (by
                    intro z
                    exact absurd (hD.symm.trans z) (by simp)))⟩
              · rw [List.length_map]
                have h1 : ((z.cps.toList.take i).filter fun c => !an c).length ≤ (z.cps.toList.take i).length := List.length_filter_le _ _
                have h2 : (z.cps.toList.take i).length ≤ z.cps.toList.length := by rw [List.length_take]; omega
                exact Nat.lt_of_le_of_lt (show _ ≤ 50000 by have : z.cps.toList.length = z.length := rfl; omega) (by decide)
              · rw [upd_same, et, List.filter_append, List.filter_cons, ha]
                simp
          · rintro H1 ⟨hd, s2⟩
            have hfull : z.cps.toList.take z.cps.size = c :: r := by
              rw [hs]
              have : z.cps.size = (c :: r).length := by rw [← hs]; rfl
              rw [this, List.take_length]
            rw [hfull] at hd
            refine ⟨Nat.zero_le _, fun e he => ?_⟩
            have s3 := Same.new (o := .lst []) he
            refine ⟨.list (((c :: r).filter fun c => !an c).map strD), .list [], .lst (.of (s3 _ _ hd)) (dp_strs _), .lst (.of upd_same) .nil, ?_, by rfl, ?_⟩
            · unfold SeqAt.shaped
              rw [PyData.canLay0, can_strs _ (fun x hx => by
                have := hA x (by rw [hs]; exact (List.mem_filter.mp hx).1)
                omega), PyData.depth, depth_strs]
              rfl
            · have q := q _ (s2.trans s3)
              rw [hs, isW_cons hc] at q
              rw [PyData.eqv, eqvAll_strs0]
              have e1 : decide ((((c :: r).filter fun c => !an c).map strD) = []) = (c :: r).all an := by
                rw [Bool.eq_iff_iff, decide_eq_true_iff, List.map_eq_nil_iff, List.filter_eq_nil_iff, List.all_eq_true]
                exact ⟨fun h x hx => by simpa using h x hx, fun h x hx => by simp [h x hx]⟩
              rw [e1]
              exact q
end

end K02

namespace K02
open PySem L2 SZ VR VX StX RT
/-! ### words, bent words -/
theorem same_butR {H H1 H2 : Hp} {p : Addr} (h0 : H p = none) (s : Same H H1) (b : ButR p H1 H2) : Same H H2 := fun c o h => b c o (s c o h) (fun e => by rw [e, h0] at h; cases h)
theorem PoolAt.same' {H H' : Hp} {a : Addr} (h : PoolAt H a) (s : Same H H') : PoolAt H' a := let ⟨p, q, e, h0⟩ := h; ⟨p, q, s _ _ e, h0⟩
theorem joinL_ones : ∀ cs : List Nat, TL.joinL [] (cs.map fun c => [c]) = cs
  | [] => rfl
  | [c] => rfl
  | c :: d :: r => by
    have ih := joinL_ones (d :: r)
    show [c] ++ ([] ++ TL.joinL [] ((d :: r).map fun c => [c])) = _
    rw [ih]
    rfl
theorem join_ones (cs : List Nat) : Txt.join Str.empty (cs.map fun c => (⟨#[c]⟩ : Str)) = ⟨cs.toArray⟩ := by
  have e : (cs.map fun c => (⟨#[c]⟩ : Str)) = (cs.map fun c => [c]).map SX.S := by
    rw [List.map_map]
    rfl
  rw [e]
  have := SX.join_S [] (cs.map fun c => [c])
  rw [joinL_ones] at this
  exact this
theorem anL : ∀ c ∈ AN.cps.toList, an c = true := by decide +kernel
theorem an128 {c : Nat} (h : an c = true) : c < 128 := by
  have h1 : ∀ c ∈ LET.cps.toList, c < 128 := by decide +kernel
  have h2 : ∀ c ∈ DIG.cps.toList, c < 128 := by decide +kernel
  unfold an lc dg at h
  rw [Bool.or_eq_true, decide_eq_true_iff, decide_eq_true_iff] at h
  exact h.elim (h1 c) (h2 c)
theorem sum_ones : ∀ cs : List Nat, ((cs.map fun c => (⟨#[c]⟩ : Str)).map (·.length)).sum = cs.length
  | [] => rfl
  | c :: cs => by
    rw [List.map_cons, List.map_cons, List.sum_cons, sum_ones cs, List.length_cons]
    show 1 + _ = _
    omega
theorem cutS_mem {z : Str} {lo hi : Option Int} : ∀ c ∈ (cutS z lo hi).cps.toList, c ∈ z.cps.toList := by
  intro c h
  unfold cutS at h
  have h : c ∈ ((z.cps.toList.drop _).take _) := h
  exact List.mem_of_mem_drop (List.mem_of_mem_take h)
theorem Asc.cut {z : Str} (h : Asc z) (lo hi : Option Int) : Asc (cutS z lo hi) := fun c hc => h c (cutS_mem c hc)
theorem Asc.app {y z : Str} (h : Asc y) (g : Asc z) : Asc (y ++ z) := fun c hc => by
  rw [PyProof.Rows.cps_toList_append] at hc
  rcases List.mem_append.mp hc with hc | hc
  · exact h c hc
  · exact g c hc
theorem lenApp (y z : Str) : (y ++ z).length = y.length + z.length := by
  have := congrArg List.length (PyProof.Rows.cps_toList_append y z)
  rw [List.length_append] at this
  exact this
abbrev SGN : List Str := ["A", "_", " ", "\n", "-", "7", "n", "*", "."]
def spWd : Sp := fun vs H Q _ => ∃ a, vs = [.ref a] ∧ PoolAt H a ∧ ∀ (z : Str) (H' : Hp), z.length ≤ 10 → (∀ c ∈ z.cps.toList, an c = true) → PoolAt H' a → ButR a H H' → Q (.str z) H'
def spBent : Sp := fun vs H Q _ => ∃ (a : Addr) (z : Str), vs = [.ref a, .str z] ∧ PoolAt H a ∧ z.length ≤ 1000 ∧ Asc z ∧ ∀ (y : Str) (H' : Hp), y.length ≤ 2 * z.length + 1 → Asc y → PoolAt H' a → ButR a H H' → Q (.str y) H'
section
variable {P : Program} {w : World} {K : PySem.W.Frag} {mg : Str → Option Value} {base : Heap}
theorem ok_word {f fk : Addr} {fd fdk : FuncData} (F : Fun K "_law_word" "_law_word" S_law_word f fd) (FK : Fun K "_law_take" "_law_take" S_law_take fk fdk) (bK : Binds K fdk ["_law_pool_here", "_law_wide"] []) (gK : mg "_law_take" = some (.ref fk)) (B : LwB mg) :
    FnOk P w K mg base CX0 2 f fd ["_law_pool_here"] spWd := by
  have GK : FnOk P w K mg base CX0 1 fk fdk ["_law_pool_here", "_law_wide"] spTake := ok_take FK B.two
  refine F.ok sc_law_word (fun vs H Q E h => ?_) (fun cdv A outer s H vs Q E hr h => ?_)
  · obtain ⟨a, rfl, _⟩ := h; rfl
  · obtain ⟨a, rfl, ha, k⟩ := h
    refine ⟨_, pss_cons (ps_set (i := 1) sc_law_word.nd rfl (Or.inr rfl) pe_str)
      (pss_one (ps_ret (pe_join pe_str (pe_lc (own := [("_law_turn", 2)]) (g := gName 2) (by rfl) sc_law_word.nd (pi_range1 (by rfl) B.rng (pa_cons (pe_op op_add pe_int (pe_call GK hr (by rfl) gK FK.kp bK .nil pass0 (pa_cons (pv 0) (pa_cons pe_int pa_nil)))) pa_nil))
        (blkOk_by (own := [("_law_turn", 2)]) (N := ["_law_pool_here", "_law_letters", "_law_turn"]) (sc := defScope S_law_word) (by decide +kernel)) (fun _ _ _ _ _ => pg_name (i := 2) sc_law_word.nd rfl (Or.inl rfl)) (fun _ _ _ _ _ => pts_nil)
        (fun _ _ _ _ _ => pe_ix ix_str (pv 1) (pe_call GK hr (by rfl) gK FK.kp bK .nil pass0 (pa_cons (pv 0) (pa_cons pe_int pa_nil))) (fun _ _ => rfl)))))), ?_⟩
    obtain ⟨p0, q0, hpl, hp0⟩ := id ha
    refine ⟨⟨_, rfl⟩, ?_⟩
    refine ⟨_, rfl, a, 10, rfl, ha, by decide, by decide, fun r H1 r0 r1 hP1 b1 f1 => ?_⟩
    refine ⟨_, _, rfl, rfl, 1 + r, rfl, by omega, by omega, fun D hD => ?_⟩
    obtain ⟨p1, q1, hpl1, hp1⟩ := id hP1
    have haD : a ≠ D := ne_of_none hpl1 hD
    refine lc_it (walk_range (lo := 0) (n := (1 + r).toNat)) (fun i H' => ∃ cs : List Nat, cs.length = i ∧ (∀ c ∈ cs, an c = true) ∧ H' D = some (.lst ((cs.map fun c => (⟨#[c]⟩ : Str)).map V.str)) ∧ PoolAt H' a ∧ ButR a H H')
      ⟨[], rfl, (fun x h => nomatch h), upd_same, ⟨p1, q1, by rw [upd_ne haD]; exact hpl1, hp1⟩, ?_⟩ (fun i H' _ _ => trivial) ?_ ?_
    · intro b o hb hne
      have e := b1 b o hb hne
      rw [upd_ne (ne_of_none e hD)]
      exact e
    · rintro i v H2 H2' hi ⟨cs, hl, hx, hd, hP, hB⟩ ⟨rfl, rfl⟩
      refine ⟨rfl, ?_⟩
      refine ⟨_, rfl, _, rfl, a, 36, rfl, hP, by decide, by decide, fun z H3 z0 z1 hP3 b3 f3 => ?_⟩
      obtain ⟨p3, q3, hpl3, hp3⟩ := id hP3
      have hd3 := b3 _ _ hd haD.symm
      have hz : z.toNat < AN.cps.toList.length := by show z.toNat < 36; omega
      have hv : AN.cps.toList[z.toNat]? = some AN.cps.toList[z.toNat] := List.getElem?_eq_getElem hz
      have hm := List.getElem_mem hz
      generalize AN.cps.toList[z.toNat] = c at hv hm
      refine ⟨AN, z, c, rfl, rfl, by decide +kernel, (by have e : (z.toNat : Int) = z := Int.toNat_of_nonneg z0; rw [← e]; exact atN hv), _, hd3, by rw [List.length_map, List.length_map, hl]; exact small1000 (by have hi : i < (1 + r).toNat := hi; omega), ?_⟩
      refine ⟨cs ++ [c], by simp [hl], fun x h => ?_, ?_, ⟨p3, q3, by rw [upd_ne haD]; exact hpl3, hp3⟩, fun b o hb hne => ?_⟩
      · rcases List.mem_append.mp h with h | h
        · exact hx x h
        · rw [List.mem_singleton.mp h]
          exact anL c hm
      · rw [upd_same]; simp
      · have e := b3 b o (hB b o hb hne) hne
        have hbD : b ≠ D := fun q => by
          have e1 := b1 b o hb hne
          rw [q, hD] at e1; cases e1
        rw [upd_ne hbD]; exact e
    · rintro H2 ⟨cs, hl, hx, hd, hP, hB⟩
      refine ⟨_, D, _, rfl, rfl, .inl (.of hd), ?_, ?_⟩
      · rw [sum_ones, List.length_map]
        have e0 : (Str.ofString "").length = 0 := by decide +kernel
        rw [e0]
        omega
      · have e0 : Str.ofString "" = Str.empty := by decide +kernel
        rw [e0, join_ones]
        exact k _ H2 (by show cs.toArray.size ≤ 10; simp; omega) (fun c hc => hx c hc) hP hB
theorem ok_bent {f fk : Addr} {fd fdk : FuncData} (F : Fun K "_law_bent" "_law_bent" S_law_bent f fd) (FK : Fun K "_law_take" "_law_take" S_law_take fk fdk) (bK : Binds K fdk ["_law_pool_here", "_law_wide"] []) (gK : mg "_law_take" = some (.ref fk)) (B : LwB mg) :
    FnOk P w K mg base CX0 2 f fd ["_law_pool_here", "_law_word_here"] spBent := by
  have GK : FnOk P w K mg base CX0 1 fk fdk ["_law_pool_here", "_law_wide"] spTake := ok_take FK B.two
  refine F.ok sc_law_bent (fun vs H Q E h => ?_) (fun cdv A outer s H vs Q E hr h => ?_)
  · obtain ⟨a, z, rfl, _⟩ := h; rfl
  · obtain ⟨a, z, rfl, ha, hz, hA, k⟩ := h
    refine ⟨_, pss_cons (ps_par (i := 2) (j := 3) (by rfl) sc_law_bent.nd rfl rfl (by decide) rfl rfl (pa_cons (pe_call GK hr (by rfl) gK FK.kp bK .nil pass0 (pa_cons (pv 0) (pa_cons (pe_op op_add (pe_callB call_len_str (by rfl) B.len PySem.boot_len (pa_cons (pv 1) pa_nil)) pe_int) pa_nil)))
          (pa_cons (pe_call GK hr (by rfl) gK FK.kp bK .nil pass0 (pa_cons (pv 0) (pa_cons pe_int pa_nil))) pa_nil)) (by rfl))
      (pss_cons (ps_if (pt_cmpR op_eq (pv 3) pe_int (nomark _)) (pss_one (ps_ret (pe_op op_add_str (pe_slice sl_str (pv 1) po_none (po_some (pv 2))) (pe_slice sl_str (pv 1) (po_some (pe_op op_add (pv 2) pe_int)) po_none)))) pss_nil)
      (pss_cons (ps_set (i := 4) sc_law_bent.nd rfl (Or.inl rfl) (pe_ix ix_list (pe_lst (pa_cons pe_str (pa_cons pe_str (pa_cons pe_str (pa_cons pe_str (pa_cons pe_str (pa_cons pe_str (pa_cons pe_str (pa_cons pe_str (pa_cons pe_str pa_nil)))))))))) (pe_call GK hr (by rfl) gK FK.kp bK .nil pass0 (pa_cons (pv 0) (pa_cons pe_int pa_nil))) (fun _ _ => rfl)))
      (pss_one (ps_ret (pe_op op_add_str (pe_op op_add_str (pe_slice sl_str (pv 1) po_none (po_some (pv 2))) (pv 4))
        (pe_slice sl_str (pv 1) (po_some (pe_op op_add (pv 2) (pe_callTy call_int1 (by rfl) B.int (by decide +kernel) (pa_cons (pe_cmpR op_eq (pv 3) pe_int (nomark _)) pa_nil)))) po_none)))))), ?_⟩
    have hzL : z.length ≤ sizeLine := zL (by omega)
    refine ⟨_, rfl, _, rfl, z, rfl, hzL, _, _, rfl, rfl, a, (z.length : Int) + 1, rfl, ha, by omega, by omega, fun at_ H1 a0 a1 hP1 b1 f1 => ?_⟩
    refine ⟨_, rfl, a, 3, rfl, hP1, by decide, by decide, fun wy H2 w0 w1 hP2 b2 f2 => ⟨_, _, rfl, ?_⟩⟩
    have cl : ∀ lo hi, (cutS z lo hi).length ≤ z.length := fun lo hi => cutS_length z lo hi
    refine ⟨_, rfl, rfl, _, rfl, ?_⟩
    refine ite2 (fun h => ?_) (fun h => ?_)
    · refine ⟨_, rfl, _, rfl, _, rfl, z, rfl, hzL, _, rfl, _, rfl, _, _, rfl, rfl, _, rfl, z, rfl, hzL, _, _, rfl, rfl, ?_, ?_⟩
      · have := cl none (some at_)
        have := cl (some (at_ + 1)) none
        exact zL (by omega)
      · refine k _ H2 ?_ ((hA.cut _ _).app (hA.cut _ _)) hP2 (ButR.trans (R := a) b1 b2)
        rw [lenApp]
        have g1 := cl none (some at_)
        have g2 := cl (some (at_ + 1)) none
        omega
    · obtain ⟨p2, q2, hpl2, hp2⟩ := id hP2
      refine ⟨lenS (by simp), fun M hM => ?_⟩
      have haM : a ≠ M := ne_of_none hpl2 hM
      refine ⟨_, rfl, a, 9, rfl, ⟨p2, q2, by rw [upd_ne haM]; exact hpl2, hp2⟩, by decide, by decide, fun g H3 g0 g1 hP3 b3 f3 => ?_⟩
      have hz : g.toNat < SGN.length := by show g.toNat < 9; omega
      have hv : SGN[g.toNat]? = some SGN[g.toNat] := List.getElem?_eq_getElem hz
      have hm := List.getElem_mem hz
      generalize SGN[g.toNat] = y at hv hm
      have hy : y.length = 1 ∧ Asc y := (by decide +kernel : ∀ y ∈ SGN, y.length = 1 ∧ ∀ c ∈ y.cps.toList, c < 128) y hm
      have hM3 : H3 M = some (.lst (SGN.map V.str)) := b3 _ _ upd_same haM.symm
      refine ⟨M, SGN.map V.str, _, .str y, rfl, rfl, .of hM3, at_of (j := g.toNat) (by omega) (by rw [List.getElem?_map, hv]; rfl), ?_⟩
      have c1 := cl none (some at_)
      refine ⟨_, rfl, _, rfl, _, rfl, z, rfl, hzL, _, rfl, _, _, rfl, rfl, zL (by have := hy.1; omega), ?_⟩
      refine ⟨_, rfl, _, rfl, _, rfl, rfl, .inr ⟨_, rfl, _, _, rfl, rfl, _, rfl, z, rfl, hzL, _, _, rfl, rfl, ?_, ?_⟩⟩
      · rw [lenApp]
        exact zL (Nat.le_trans (Nat.add_le_add_left (cl _ _) _) (by have := hy.1; omega))
      · refine k _ H3 ?_ (((hA.cut _ _).app hy.2).app (hA.cut _ _)) ⟨_, _, hP3.choose_spec.choose_spec.1, hP3.choose_spec.choose_spec.2⟩ ?_
        · rw [lenApp, lenApp]
          exact Nat.le_trans (Nat.add_le_add_left (cl _ _) _) (by have := hy.1; omega)
        · intro b o hb hne
          exact b3 _ _ (Same.new (o := .lst (SGN.map V.str)) hM _ _ (b2 _ _ (b1 _ _ hb hne) hne)) hne
end

end K02

namespace K02
open PySem L2 SZ VR VX StX RT
/-! ### is a word read -/
abbrev T1 : Str := "array "
abbrev T2 : Str := " n for q"
abbrev T3 : Str := " n { read "
abbrev T4 : Str := "[n*q"
abbrev T5 : Str := "] }"
def textW (z : Str) : Str := T1 ++ z ++ T2 ++ z ++ T3 ++ z ++ T4 ++ z ++ T5
theorem textW_toks (z : Str) : (textW z).cps.toList = (itemsW z.cps.toList).flatten := by
  have e1 : T1.cps.toList = [97, 114, 114, 97, 121, 32] := by decide +kernel
  have e2 : T2.cps.toList = [32, 110, 32, 102, 111, 114, 32, 113] := by decide +kernel
  have e3 : T3.cps.toList = [32, 110, 32, 123, 32, 114, 101, 97, 100, 32] := by decide +kernel
  have e4 : T4.cps.toList = [91, 110, 42, 113] := by decide +kernel
  have e5 : T5.cps.toList = [93, 32, 125] := by decide +kernel
  unfold textW
  simp only [PyProof.Rows.cps_toList_append, e1, e2, e3, e4, e5, itemsW, List.flatten_cons, List.flatten_nil, List.append_assoc, List.cons_append, List.nil_append, List.append_nil]
/-- every sign a letter or a digit, one at least -/
structure AnW (z : Str) : Prop where
  ne : z.cps.toList ≠ []
  an : z.cps.toList.all an = true
def spIsRead : Sp := fun vs H Q _ => ∃ z : Str, vs = [.str z] ∧ z.length ≤ 100 ∧ AnW z ∧ ∀ H', Same H H' → Q (.bl (isNm z)) H'
theorem str_of (z : Str) : (⟨z.cps.toList.toArray⟩ : Str) = z := by
  obtain ⟨⟨l⟩⟩ := z
  rfl
theorem strOk_an {z : Str} (h : z.cps.toList.all an = true) : PyData.strOk z = true := by
  unfold PyData.strOk
  rw [← Array.all_toList, List.all_eq_true]
  intro c hc
  have := an128 (List.all_eq_true.mp h c hc)
  exact decide_eq_true (by omega)
theorem shapedW {z : Str} (h : z.cps.toList.all an = true) : SeqAt.shaped (.tuple [.tuple [.str z, dI [0, 1]]]) = true := by
  have h1 := strOk_an h
  simp [SeqAt.shaped, PyData.canLay0, PyData.canLayAll0, dI, PyData.depth, PyData.depthAll, h1]
theorem eqvW (z : Str) : PyData.eqv (.tuple [.tuple [.str z, dI [0, 1]]]) (.tuple [.tuple [.str z, dI [0, 1]]]) = true := by
  simp [PyData.eqv, PyData.eqvAll, dI]
section
variable {P : Program} {w : World} {K : PySem.W.Frag} {mg : Str → Option Value} {base : Heap} {C CV CS CT : Addr}
theorem ok_is_read {f fP : Addr} {fd dP : FuncData} (F : Fun K "_law_is_read" "_law_is_read" S_law_is_read f fd) (FP : Fun K "parse" "parse" S_parse fP dP) (bP : Binds K dP ["text"] []) (gP : mg "parse" = some (.ref fP)) (W : PzS P w K mg base C CV CS CT)
    (te : PySem.W.exmOne K (.ref CS) (.ref CS) = some true) (gC : mg "InvalidSyntax" = some (.ref CS)) : FnOk P w K mg base CX0 27 f fd ["_law_word_here"] spIsRead := by
  have GP : FnOk P w K mg base (L2.CX P w) 26 fP dP ["text"] (spParse K CV CS CT) := ok_parse FP W
  refine F.ok sc_law_is_read (fun vs H Q E h => ?_) (fun cdv A outer s H vs Q E hr h => ?_)
  · obtain ⟨z, rfl, _⟩ := h; rfl
  · obtain ⟨z, rfl, hz, hA, q⟩ := h
    refine ⟨_, pss_cons (ps_set (i := 1) sc_law_is_read.nd rfl (Or.inl rfl) (pe_op op_add_str (pe_op op_add_str (pe_op op_add_str (pe_op op_add_str pe_str (pv 0)) pe_str) (pv 0)) pe_str))
      (pss_cons (ps_set (i := 1) sc_law_is_read.nd rfl (Or.inl rfl) (pe_op op_add_str (pe_op op_add_str (pe_op op_add_str (pe_op op_add_str (pv 1) (pv 0)) pe_str) (pv 0)) pe_str))
      (pss_one (ps_try_only (Wout := fun _ _ _ _ => False) (tb := fun W => tRet (tOp (rEqD K) (tOp (rIxT K) (tCallS (spParse K CV CS CT) (WE W) (tCons (tVar 1) tNil)) (tC (.int 0))) (tTup (tCons (tTup (tCons (tVar 0) (tCons (tTup (tCons (tC (.int 0)) (tCons (tC (.int 1)) tNil))) tNil))) tNil)))) (ts := fun _ _ _ => tRet (tC (.bl false))) rfl rfl ⟨rfl, by decide, .inl gC⟩ takes0
        (fun W pn xe tk _ => pss_one (ps_ret (pe_cmpR (r := rEqD K) (op_eqD hr.units) (pe_ix (r := rIxT K) ix_tup (pe_callS GP hr (by rfl) gP FP.kp bP (fun σ => passAt tk σ) (pa_cons (pv 1) pa_nil)) pe_int (fun _ _ => rfl)) (pe_tup (pa_cons (pe_tup (pa_cons (pv 0) (pa_cons (pe_tup (pa_cons pe_int (pa_cons pe_int pa_nil))) pa_nil))) pa_nil)) (nomark _))))
        (fun a oe cls d pn hz' hf => pss_one (ps_ret pe_bl))))), ?_⟩
    have l1 : T1.length = 6 := by decide +kernel
    have l2 : T2.length = 8 := by decide +kernel
    have l3 : T3.length = 10 := by decide +kernel
    have l4 : T4.length = 4 := by decide +kernel
    have l5 : T5.length = 3 := by decide +kernel
    have L : ∀ a b : Str, (a ++ b).length = a.length + b.length := lenApp
    refine ⟨_, rfl, T1, z, rfl, rfl, zL (by omega), T1 ++ z, T2, rfl, rfl, zL (by rw [L]; omega), _, rfl, T1 ++ z ++ T2, z, rfl, rfl, zL (by rw [L, L]; omega), T1 ++ z ++ T2 ++ z, T3, rfl, rfl, zL (by rw [L, L, L]; omega), ?_⟩
    refine ⟨_, rfl, _, rfl, T1 ++ z ++ T2 ++ z ++ T3, z, rfl, rfl, zL (by simp only [L]; omega), T1 ++ z ++ T2 ++ z ++ T3 ++ z, T4, rfl, rfl, zL (by simp only [L]; omega), _, rfl, T1 ++ z ++ T2 ++ z ++ T3 ++ z ++ T4, z, rfl, rfl, zL (by simp only [L]; omega), T1 ++ z ++ T2 ++ z ++ T3 ++ z ++ T4 ++ z, T5, rfl, rfl, zL (by simp only [L]; omega), ?_⟩
    have hT : (tokz (textW z)).map Prod.fst = wordsW z.cps.toList := toks_W hA.an hA.ne (textW_toks z)
    have hI : I64 (tokz (textW z)) := fun k cs k' h => by
      have := sumsM_len h
      have e : (tokz (textW z)).length = 16 := by rw [← List.length_map (f := Prod.fst), hT]; rfl
      omega
    have hL : (textW z).length ≤ 50000 := by unfold textW; simp only [L]; omega
    refine ⟨_, rfl, .str (textW z), rfl, .inl ⟨textW z, rfl, hL, hI, ?_⟩⟩
    have e0 : isNmL z.cps.toList = isNm z := by unfold isNmL; rw [str_of]
    cases hN : isNm z with
    | false =>
      rw [parse_K hT (e0.trans hN)]
      rw [hN] at q
      refine fun d H' s1 e1 => ⟨true, te, fun _ a ha => ?_, fun z => nomatch z⟩
      exact q H' s1
    | true =>
      obtain ⟨b, j, eP⟩ := parse_W hT (e0.trans hN) hA.an
      rw [eP]
      rw [hN] at q
      rintro x H1 s1 ⟨p, ta, tb, vs, us, rfl, hp, hta, hpa, htb, hbk⟩
      cases hpa with
      | cons hf r =>
        cases r
        obtain ⟨a, t, rfl, ha, ht⟩ := hf
        refine ⟨p, _, 0, .ref ta, rfl, rfl, .of hp, atN (j := 0) rfl, ?_⟩
        refine ⟨_, rfl, lenS (by simp), fun u hu => ⟨lenS (by simp), fun v hv => ⟨lenS (by simp), fun y hy => ?_⟩⟩⟩
        have S1 := (Same.new (o := .tup [.int 0, .int 1]) hu)
        have S2 := (Same.new (o := .tup [.str z, .ref u]) hv)
        have S3 := (Same.new (o := .tup [.ref v]) hy)
        have S := (S1.trans S2).trans S3
        refine ⟨.tuple [.tuple [.str ⟨z.cps.toList.toArray⟩, dI [0, 1]]], .tuple [.tuple [.str z, dI [0, 1]]], .tup (S.tup hta) (.cons (.tup (.of (S _ _ ha)) (.cons (.str _) (.cons (dp_ints (S.tup ht)) .nil))) .nil),
          .tup (.of upd_same) (.cons (.tup (.of (S3 _ _ upd_same)) (.cons (.str _) (.cons (dp_ints (.of (S3 _ _ (S2 _ _ upd_same)))) .nil))) .nil), ?_, ?_, ?_⟩
        · rw [str_of]; exact shapedW hA.an
        · exact shapedW hA.an
        · rw [str_of, eqvW]
          exact q _ (s1.trans S)
end

end K02

namespace K02
open PySem L2 SZ VR VX StX RT
/-! ### law -/
def spLaw (K : PySem.W.Frag) : Sp := fun vs H Q _ => ∃ (a : Addr) (ns : List Int), vs = [.ref a] ∧ SqL K H a (iz ns) ∧ ns.length ≤ 63 ∧ ∀ H', Q (.bl true) H'
/-- a word of the law -/
def WdOk (z : Str) : Prop := z.length ≤ 30 ∧ Asc z
theorem an_asc {z : Str} (h : ∀ c ∈ z.cps.toList, an c = true) : Asc z := fun c hc => an128 (h c hc)
theorem kw_ok : ∀ z ∈ KW, z.length ≤ 10 ∧ (∀ c ∈ z.cps.toList, c < 128) ∧ z.cps.toList ≠ [] ∧ z.cps.toList.all an = true ∧ isNm z = false ∧ (z ++ ("1" : Str)).cps.toList ≠ [] ∧ (z ++ ("1" : Str)).cps.toList.all an = true ∧ isNm (z ++ ("1" : Str)) = true ∧ (z ++ ("1" : Str)).length ≤ 20 := by decide +kernel
theorem nm_an {z : Str} (h : isNm z = true) : AnW z := by
  unfold isNm at h
  have h1 := (Bool.and_eq_true_iff.mp h).1
  cases hs : z.cps.toList with
  | nil => rw [hs] at h1; cases h1
  | cons c r =>
    rw [hs] at h1
    have hc : lc c = true := (Bool.and_eq_true_iff.mp (show (lc c && r.all an) = true from h1)).1
    refine ⟨by rw [hs]; simp, ?_⟩
    rw [hs, ← isW_cons hc]
    exact h1
theorem cut6 (ws : List Str) : cutV ((KW ++ ws).map V.str) none (some 6) = KW.map V.str := by
  rfl
section
variable {P : Program} {w : World} {K : PySem.W.Frag} {mg : Str → Option Value} {base : Heap}
/-- what the law calls -/
structure LwD (P : Program) (w : World) (K : PySem.W.Frag) (mg : Str → Option Value) (base : Heap) : Prop where
  B : LwB mg
  pool : ∃ f fd, mg "_law_pool" = some (.ref f) ∧ PySem.W.keepIn K (.ref f) = true ∧ Binds K fd ["_law_script", "_law_k"] [] ∧ FnOk P w K mg base CX0 1 f fd ["_law_script", "_law_k"] (spPool K)
  word : ∃ f fd, mg "_law_word" = some (.ref f) ∧ PySem.W.keepIn K (.ref f) = true ∧ Binds K fd ["_law_pool_here"] [] ∧ FnOk P w K mg base CX0 2 f fd ["_law_pool_here"] spWd
  bent : ∃ f fd, mg "_law_bent" = some (.ref f) ∧ PySem.W.keepIn K (.ref f) = true ∧ Binds K fd ["_law_pool_here", "_law_word_here"] [] ∧ FnOk P w K mg base CX0 2 f fd ["_law_pool_here", "_law_word_here"] spBent
  due : ∃ f fd, mg "_law_due" = some (.ref f) ∧ PySem.W.keepIn K (.ref f) = true ∧ Binds K fd ["_law_word_here"] [] ∧ FnOk P w K mg base CX0 1 f fd ["_law_word_here"] spDue
  isn : ∃ f fd, mg "is_name" = some (.ref f) ∧ PySem.W.keepIn K (.ref f) = true ∧ Binds K fd ["value"] [] ∧ FnOk P w K mg base CX0 3 f fd ["value"] (spName K)
  rd : ∃ f fd, mg "_law_is_read" = some (.ref f) ∧ PySem.W.keepIn K (.ref f) = true ∧ Binds K fd ["_law_word_here"] [] ∧ FnOk P w K mg base CX0 27 f fd ["_law_word_here"] spIsRead
theorem ok_law {f : Addr} {fd : FuncData} (F : Fun K "law" "law" S_law f fd) (D : LwD P w K mg base) : FnOk P w K mg base CX0 28 f fd ["_law_script"] (spLaw K) := by
  obtain ⟨fP, dP, gP, kP, bP, GP⟩ := D.pool
  obtain ⟨fW, dW, gW, kW, bW, GW⟩ := D.word
  obtain ⟨fB, dB, gB, kB, bB, GB⟩ := D.bent
  obtain ⟨fD, dD, gD, kD, bD, GD⟩ := D.due
  obtain ⟨fN, dN, gN, kN, bN, GN⟩ := D.isn
  obtain ⟨fR, dR, gR, kR, bR, GR⟩ := D.rd
  have B := D.B
  refine F.ok sc_law (fun vs H Q E h => ?_) (fun cdv A outer s H vs Q E hr h => ?_)
  · obtain ⟨a, ns, rfl, _⟩ := h; rfl
  · obtain ⟨a, ns, rfl, ha, hl, k⟩ := h
    have hr1 : Room 1 _ := hr.mono (by decide)
    have hr2 : Room 2 _ := hr.mono (by decide)
    have hr3 : Room 3 _ := hr.mono (by decide)
    refine ⟨_, pss_cons (ps_for PassesOwn.never rfl (pi_list (pe_lst (pa_cons pe_non (pa_cons pe_int (pa_cons pe_bl (pa_cons (pe_lst (pa_cons pe_str pa_nil)) (pa_cons (pe_tup (pa_cons pe_str pa_nil)) (pa_cons pe_dnewK pa_nil)))))))) (pg_name (i := 1) sc_law.nd rfl (Or.inl rfl))
        (pss_one (ps_if (pt_cmpR op_isnot_bl (pe_call GN hr3 (by rfl) gN kN bN .nil pass0 (pa_cons (pv 1) pa_nil)) pe_bl (nomark _)) (pss_one (ps_ret pe_bl)) pss_nil)))
      (pss_cons (ps_for PassesOwn.never rfl (pi_range1 (by rfl) B.rng (pa_cons (pe_callB (call_max2 rfl) (by rfl) B.max (by decide +kernel) (pa_cons pe_int (pa_cons (pe_callB (call_min2 rfl) (by rfl) B.min (by decide +kernel)
          (pa_cons (pe_callB call_len_seq (by rfl) B.len PySem.boot_len (pa_cons (pv 0) pa_nil)) (pa_cons pe_int pa_nil))) pa_nil))) pa_nil)) (pg_name (i := 2) sc_law.nd rfl (Or.inl rfl))
        (pss_cons (ps_set (i := 3) sc_law.nd rfl (Or.inr rfl) (pe_call GP hr1 (by rfl) gP kP bP .nil pass0 (pa_cons (pv 0) (pa_cons (pv 2) pa_nil))))
        (pss_cons (ps_set (i := 4) sc_law.nd rfl (Or.inl rfl) (pe_lst (pa_cons pe_str (pa_cons pe_str (pa_cons pe_str (pa_cons pe_str (pa_cons pe_str (pa_cons pe_str (pa_cons (pe_call GW hr2 (by rfl) gW kW bW .nil pass0 (pa_cons (pv 3) pa_nil)) (pa_cons (pe_call GW hr2 (by rfl) gW kW bW .nil pass0 (pa_cons (pv 3) pa_nil)) pa_nil))))))))))
        (pss_cons (ps_set (i := 4) sc_law.nd rfl (Or.inl rfl) (pe_op op_cat (pv 4) (pe_lc (own := [("_law_word_here", 5)]) (g := gName 5) (by rfl) sc_law.nd (pi_list (pv 4)) (blkOk_by (own := [("_law_word_here", 5)]) (N := ["_law_script", "_law_thing", "_law_k", "_law_pool_here", "_law_words", "_law_word_here"]) (sc := defScope S_law) (by decide +kernel)) (fun _ _ _ _ _ => pg_name (i := 5) sc_law.nd rfl (Or.inl rfl)) (fun _ _ _ _ _ => pts_nil)
          (fun _ _ _ _ _ => pe_call GB hr2 (by rfl) gB kB bB .nil pass0 (pa_cons (pv 3) (pa_cons (pv 5) pa_nil))))))
        (pss_cons (ps_for PassesOwn.never rfl (pi_list (pv 4)) (pg_name (i := 5) sc_law.nd rfl (Or.inl rfl))
          (pss_cons (ps_if (pt_cmpR op_ne (pe_callB call_reprB (by rfl) B.rep (by decide +kernel) (pa_cons (pe_call GN hr3 (by rfl) gN kN bN .nil pass0 (pa_cons (pv 5) pa_nil)) pa_nil)) (pe_callB call_reprB (by rfl) B.rep (by decide +kernel) (pa_cons (pe_call GD hr1 (by rfl) gD kD bD .nil pass0 (pa_cons (pv 5) pa_nil)) pa_nil)) (nomark _)) (pss_one (ps_ret pe_bl)) pss_nil)
          (pss_one (ps_if (PW.pt (pw_and (pt_val (pe_call GD hr1 (by rfl) gD kD bD .nil pass0 (pa_cons (pv 5) pa_nil))) (pw_and1 (pt_not (pt_val (pe_call GR hr (by rfl) gR kR bR .nil pass0 (pa_cons (pv 5) pa_nil))))))) (pss_one (ps_ret pe_bl)) pss_nil))))
        (pss_one (ps_for PassesOwn.never rfl (pi_list (pe_slice sl_list (pv 4) po_none (po_some pe_int))) (pg_name (i := 5) sc_law.nd rfl (Or.inl rfl))
          (pss_one (ps_if (PW.pt (pw_or (pt_val (pe_call GR hr (by rfl) gR kR bR .nil pass0 (pa_cons (pv 5) pa_nil))) (pw_or1 (pt_not (pt_val (pe_call GR hr (by rfl) gR kR bR .nil pass0 (pa_cons (pe_op op_add_str (pv 5) pe_str) pa_nil))))))) (pss_one (ps_ret pe_bl)) pss_nil)))))))))
      (pss_one (ps_ret pe_bl))), ?_⟩
    refine ⟨lenS (by simp), fun l1 hl1 => ⟨lenS (by simp), fun t1 ht1 => fun d1 hd1 => ⟨lenS (by simp), fun M hM => ?_⟩⟩⟩
    have S0 : Same H (upd (upd (upd (upd H l1 (.lst [.str (Str.ofString "a")])) t1 (.tup [.str (Str.ofString "a")])) d1 (.dK [])) M (.lst [.non, .int 5, .bl true, .ref l1, .ref t1, .ref d1])) := (((Same.new hl1).upN ht1).upN hd1).upN hM
    have fd := (Same.new (o := .lst [.non, .int 5, .bl true, .ref l1, .ref t1, .ref d1]) hM) _ _ (upd_same (H := upd (upd H l1 (.lst [.str (Str.ofString "a")])) t1 (.tup [.str (Str.ofString "a")])) (a := d1) (o := .dK []))
    have ft := (Same.new (o := .lst [.non, .int 5, .bl true, .ref l1, .ref t1, .ref d1]) hM) _ _ ((Same.new (o := .dK []) hd1) _ _ (upd_same (H := upd H l1 (.lst [.str (Str.ofString "a")])) (a := t1) (o := .tup [.str (Str.ofString "a")])))
    have fl := (Same.new (o := .lst [.non, .int 5, .bl true, .ref l1, .ref t1, .ref d1]) hM) _ _ ((Same.new (o := .dK []) hd1) _ _ ((Same.new (o := .tup [.str (Str.ofString "a")]) ht1) _ _ (upd_same (H := H) (a := l1) (o := .lst [.str (Str.ofString "a")]))))
    have fm := upd_same (H := upd (upd (upd H l1 (.lst [.str (Str.ofString "a")])) t1 (.tup [.str (Str.ofString "a")])) d1 (.dK [])) (a := M) (o := .lst [.non, .int 5, .bl true, .ref l1, .ref t1, .ref d1])
    refine ⟨M, rfl, ⟨_, .of fm⟩, ?_⟩
    generalize upd (upd (upd (upd H l1 (.lst [.str (Str.ofString "a")])) t1 (.tup [.str (Str.ofString "a")])) d1 (.dK [])) M (.lst [.non, .int 5, .bl true, .ref l1, .ref t1, .ref d1]) = Hm at S0 fd ft fl fm
    refine for_list (xs := [.non, .int 5, .bl true, .ref l1, .ref t1, .ref d1]) (fun i σ H' => ∃ v1, σ = [some (.ref a), v1, none, none, none, none] ∧ Same Hm H') ⟨none, rfl, Same.refl _⟩ (fun i σ H' _ ⟨_, _, s1⟩ => .of (s1 _ _ fm)) ?_ ?_
    · rintro i x σ H' hx ⟨v1, rfl, s1⟩
      have go : ∀ t, TyX K H' x t → PySem.W.kitOne K t (.type "str") = some false → tIfS (tTest (tOp (fun x y H Q => ∃ a b, x = .bl a ∧ y = .bl b ∧ Q (.bl (!decide (a = b))) H) (tCall (spName K) [] E0 (tCons (tVar 1) tNil)) (tC (.bl false)))) (tRet (tC (.bl false))) tNext
          { nx := fun σ H' => ∃ v1, σ = [some (.ref a), v1, none, none, none, none] ∧ Same Hm H', rt := Q, bk := fun _ _ => False, ct := fun _ _ => False } [some (.ref a), some x, none, none, none, none] H' := fun t ty kt => ⟨_, rfl, x, rfl, .inr ⟨t, ty, kt, false, false, rfl, rfl, _, rfl, iteF ⟨_, rfl, s1⟩⟩⟩
      have hm := List.mem_of_getElem? hx
      simp only [List.mem_cons, List.not_mem_nil, or_false] at hm
      rcases hm with rfl | rfl | rfl | rfl | rfl | rfl
      · exact go _ (.base .non) (kit_ty (by decide +kernel))
      · exact go _ (.base (.int 5)) (kit_ty (by decide +kernel))
      · exact go _ (.base (.bl true)) (kit_ty (by decide +kernel))
      · exact go _ (.base (.lst (s1 _ _ fl))) (kit_ty (by decide +kernel))
      · exact go _ (.base (.tup (s1 _ _ ft))) (kit_ty (by decide +kernel))
      · exact go _ (.base (.dK (s1 _ _ fd))) (kit_ty (by decide +kernel))
    · rintro σ Hn ⟨v1, rfl, sn⟩
      have SN := S0.trans sn
      refine ⟨_, rfl, a, iz ns, rfl, .inl (SN.seq ha), _, _, rfl, _, _, rfl, _, rfl, ?_⟩
      rw [iz_len]
      have hM : ∀ m : Nat, (0 : Int) ≤ (if (if (6 : Int) < (m : Int) then 6 else (m : Int)) > 1 then (if (6 : Int) < (m : Int) then 6 else (m : Int)) else 1) ∧ (if (if (6 : Int) < (m : Int) then 6 else (m : Int)) > 1 then (if (6 : Int) < (m : Int) then 6 else (m : Int)) else 1) ≤ 6 := fun m => by
        split
        · split <;> omega
        · omega
      obtain ⟨M0, M6⟩ := hM ns.length
      refine ⟨by omega, by omega, ?_⟩
      generalize (if (if (6 : Int) < (ns.length : Int) then 6 else (ns.length : Int)) > 1 then (if (6 : Int) < (ns.length : Int) then 6 else (ns.length : Int)) else 1) = N at M0 M6
      refine for_range (lo := 0) (n := N.toNat) (fun i σ H' => ∃ v1 v2 v3 v4 v5, σ = [some (.ref a), v1, v2, v3, v4, v5] ∧ Same H H') ⟨_, none, none, none, none, rfl, SN⟩ ?_ ?_
      · rintro i σ H0 hi ⟨v1, v2, v3, v4, v5, rfl, s0⟩
        refine ⟨_, rfl, _, rfl, a, ns, i, by rw [Int.zero_add]; rfl, s0.seq ha, by omega, hl, fun p H1 hp0 s1 hP1 => ?_⟩
        refine ⟨_, rfl, p, rfl, hP1, fun z1 H2 hz1 ha1 hP2 b2 => ⟨_, rfl, p, rfl, hP2, fun z2 H3 hz2 ha2 hP3 b3 => ⟨lenS (by simp), fun W hW => ?_⟩⟩⟩
        obtain ⟨q1, q2, hpl3, hq0⟩ := id hP3
        have npW : p ≠ W := ne_of_none hpl3 hW
        have s3 := same_butR hp0 s1 (ButR.trans (R := p) b2 b3)
        have s4 : Same H0 (upd H3 W (.lst ((KW ++ [z1, z2]).map V.str))) := s3.upN hW
        have hW4 : (upd H3 W (.lst ((KW ++ [z1, z2]).map V.str))) W = some (.lst ((KW ++ [z1, z2]).map V.str)) := upd_same
        have hP4 : PoolAt (upd H3 W (.lst ((KW ++ [z1, z2]).map V.str))) p := ⟨q1, q2, by rw [upd_ne npW]; exact hpl3, hq0⟩
        have e4 : upd H3 W (.lst ((KW ++ [z1, z2]).map V.str)) = upd H3 W (.lst [.str (Str.ofString "array"), .str (Str.ofString "for"), .str (Str.ofString "read"), .str (Str.ofString "write"), .str (Str.ofString "flush"), .str (Str.ofString "n"), .str z1, .str z2]) := rfl
        rw [e4] at s4 hW4 hP4
        clear e4
        show tSeq _ _ _ _ (upd H3 W (.lst [.str (Str.ofString "array"), .str (Str.ofString "for"), .str (Str.ofString "read"), .str (Str.ofString "write"), .str (Str.ofString "flush"), .str (Str.ofString "n"), .str z1, .str z2]))
        generalize upd H3 W (.lst [.str (Str.ofString "array"), .str (Str.ofString "for"), .str (Str.ofString "read"), .str (Str.ofString "write"), .str (Str.ofString "flush"), .str (Str.ofString "n"), .str z1, .str z2]) = H4 at s4 hW4 hP4
        have h16 : ∀ z ∈ KW ++ [z1, z2], z.length ≤ 10 ∧ Asc z := fun z hz => by
          rcases List.mem_append.mp hz with hz | hz
          · obtain ⟨h1, h2, _⟩ := kw_ok z hz
            exact ⟨h1, h2⟩
          · simp only [List.mem_cons, List.not_mem_nil, or_false] at hz
            rcases hz with rfl | rfl
            · exact ⟨hz1, an_asc ha1⟩
            · exact ⟨hz2, an_asc ha2⟩
        have ofStr : ∀ {ws : List Str} {j : Nat} {v : V}, (ws.map V.str)[j]? = some v → ∃ z, z ∈ ws ∧ v = .str z := fun {ws j v} h => by
          rw [List.getElem?_map] at h
          cases e : ws[j]? with
          | none => rw [e] at h; cases h
          | some z => rw [e] at h; exact ⟨z, List.mem_of_getElem? e, (Option.some.inj h).symm⟩
        have hz8 : ∀ z ∈ KW ++ [z1, z2], WdOk z := fun z hz => ⟨by have := (h16 z hz).1; omega, (h16 z hz).2⟩
        obtain ⟨q3, q4, hpl4, hq4⟩ := id hP4
        have nWp : W ≠ p := npW.symm
        refine ⟨_, rfl, _, rfl, W, rfl, ⟨_, .of hW4⟩, fun D hD => lc_it (walk_list (xs := (KW ++ [z1, z2]).map V.str)) (fun i H' => ∃ ys : List Str, ys.length = i ∧ (∀ y ∈ ys, WdOk y) ∧ H' D = some (.lst (ys.map V.str)) ∧ PoolAt H' p ∧ H' W = some (.lst ((KW ++ [z1, z2]).map V.str)) ∧ ButR p H4 H')
          ⟨[], rfl, (fun x h => nomatch h), upd_same, hP4.same' (Same.new hD), (Same.new hD) _ _ hW4, ButR.of (Same.new hD)⟩ (fun i H' _ ⟨_, _, _, _, _, h, _⟩ => .of h) ?_ ?_⟩
        · rintro j v H5 H5' hj ⟨ys, hyl, hyw, hyd, hP5, hW5, b5⟩ ⟨rfl, hv⟩
          obtain ⟨z, hz, rfl⟩ := ofStr hv
          obtain ⟨hz1', hz2'⟩ := h16 z hz
          refine ⟨rfl, ?_⟩
          refine ⟨_, rfl, _, rfl, p, z, rfl, hP5, by omega, hz2', fun y H6 hy ay hP6 b6 => ?_⟩
          have npD : p ≠ D := ne_of_none hpl4 hD
          have hyd6 := b6 _ _ hyd npD.symm
          have hW6 := b6 _ _ hW5 nWp
          have sD : ∀ o, H6 D = some o → KpT H6 (upd H6 D (.lst (ys.map V.str ++ [.str y]))) := fun o e => updL.kp hyd6
          refine ⟨_, hyd6, by rw [List.length_map, hyl]; exact small1000 (by have h : j < 8 := (by simpa using hj); omega), ys ++ [y], by simp [hyl], fun x hx => ?_, by rw [upd_same, List.map_append]; rfl, ?_, ?_, fun b o hb hn => ?_⟩
          · rcases List.mem_append.mp hx with hx | hx
            · exact hyw x hx
            · rw [List.mem_singleton.mp hx]
              exact ⟨by omega, ay⟩
          · obtain ⟨u1, u2, hu, hu0⟩ := hP6
            exact ⟨u1, u2, by rw [upd_ne npD]; exact hu, hu0⟩
          · rw [upd_ne (ne_of_none hW4 hD)]
            exact hW6
          · rw [upd_ne (ne_of_none hb hD)]
            exact b6 _ _ (b5 _ _ hb hn) hn
        · rintro H6 ⟨ys, hyl, hyw, hyd, hP6, hW6, b6⟩
          have hyl8 : ys.length = 8 := by simpa using hyl
          refine ⟨W, D, _, _, rfl, rfl, hW6, hyd, ?_, fun L hL => ?_⟩
          · rw [List.length_map, List.length_map, hyl8]
            exact lenS (by simp)
          have s6 : Same H0 H6 := fun b o e => b6 b o (s4 b o e) (ne_of_none e (by
            cases hh : H0 p with
            | none => rfl
            | some o => exact absurd (hp0.symm.trans hh) (by simp)))
          have s7 := s6.upN (o := .lst ((KW ++ [z1, z2]).map V.str ++ ys.map V.str)) hL
          rw [← List.map_append] at s7 ⊢
          have hL7 : (upd H6 L (.lst ((KW ++ [z1, z2] ++ ys).map V.str))) L = some (.lst ((KW ++ [z1, z2] ++ ys).map V.str)) := upd_same
          generalize upd H6 L (.lst ((KW ++ [z1, z2] ++ ys).map V.str)) = H7 at s7 hL7
          have hws : ∀ z ∈ KW ++ [z1, z2] ++ ys, WdOk z := fun z hz => (List.mem_append.mp hz).elim (hz8 z) (hyw z)
          refine ⟨_, rfl, L, rfl, ⟨_, .of hL7⟩, for_list (xs := (KW ++ [z1, z2] ++ ys).map V.str) (fun j σ H' => ∃ v5, σ = [some (.ref a), v1, some (.int (0 + (i : Int))), some (.ref p), some (.ref L), v5] ∧ Same H7 H') ⟨_, rfl, Same.refl _⟩ (fun j σ H' _ ⟨_, _, s⟩ => .of (s _ _ hL7)) ?_ ?_⟩
          · rintro j v σ H8 hv ⟨v5', rfl, s8⟩
            obtain ⟨z, hz, rfl⟩ := ofStr hv
            obtain ⟨zl, za⟩ := hws z hz
            refine ⟨_, rfl, .str z, rfl, .inl ⟨z, rfl, by omega, isNm z, rfl, _, rfl, z, rfl, by omega, za, fun H9 s9 => ⟨isNm z, rfl, rfl, _, rfl, ?_⟩⟩⟩
            rw [decide_eq_true rfl]
            refine iteF ⟨_, rfl, z, rfl, by omega, za, fun H10 s10 => ⟨_, rfl, ?_⟩⟩
            cases hN : isNm z with
            | false => exact iteF (iteF ⟨_, rfl, (s8.trans s9).trans s10⟩)
            | true =>
              refine iteT ⟨_, rfl, z, rfl, by omega, nm_an hN, fun H11 s11 => ⟨_, rfl, ?_⟩⟩
              rw [hN]
              exact iteF ⟨_, rfl, ((s8.trans s9).trans s10).trans s11⟩
          · rintro σ H8 ⟨v5', rfl, s8⟩
            refine ⟨_, rfl, _, rfl, L, _, rfl, .of (s8 _ _ hL7), fun S hS => ?_⟩
            have e6 : cutV ((KW ++ [z1, z2] ++ ys).map V.str) none (some 6) = KW.map V.str := by rw [List.append_assoc]; exact cut6 _
            rw [e6]
            refine ⟨S, rfl, ⟨_, .of upd_same⟩, for_list (xs := KW.map V.str) (fun j σ H' => ∃ v5, σ = [some (.ref a), v1, some (.int (0 + (i : Int))), some (.ref p), some (.ref L), v5] ∧ Same (upd H8 S (.lst (KW.map V.str))) H') ⟨_, rfl, Same.refl _⟩ (fun j σ H' _ ⟨_, _, s⟩ => .of (s _ _ upd_same)) ?_ ?_⟩
            · rintro j v σ H9 hv ⟨v5'', rfl, s9⟩
              obtain ⟨z, hz, rfl⟩ := ofStr hv
              obtain ⟨k1, k2, k3, k4, k5, k6, k7, k8, k9⟩ := kw_ok z hz
              refine ⟨_, rfl, z, rfl, by omega, ⟨k3, k4⟩, fun H10 s10 => ⟨_, rfl, ?_⟩⟩
              rw [k5]
              refine iteF ⟨_, rfl, z, _, rfl, rfl, zL (by rw [← lenApp]; exact Nat.le_trans k9 (by decide)), z ++ ("1" : Str), rfl, by omega, ⟨k6, k7⟩, fun H11 s11 => ⟨_, rfl, ?_⟩⟩
              rw [k8]
              exact iteF ⟨_, rfl, (s9.trans s10).trans s11⟩
            · rintro σ H9 ⟨v5'', rfl, s9⟩
              exact ⟨_, _, _, _, _, rfl, s0.trans (s7.trans (s8.trans ((Same.new hS).trans s9)))⟩
      · rintro σ H' ⟨v1, v2, v3, v4, v5, rfl, s1⟩
        exact k _
end

end K02

namespace K02
open PySem L2 SZ VR VX StX RT
/-! ### own errors in the written part -/
abbrev veM (far : Addr) : List Value := [.ref far, .type "ValueError", .type "Exception", .type "BaseException", .type "object"]
/-- what the top says of an error class at C -/
structure ErX (K : PySem.W.Frag) (mg : Str → Option Value) (x : Str) (C far : Addr) (f : Str) : Prop where
  l : ∃ nm q N bs sn sub ab col dd k0 k1 k2 k3 k5, K.lookup C = some (excClassObj nm q C N bs (veM far) true sn sub ab col dd k0 k1 k2 k3 k5 "ValueError.__new__")
  sa : PySem.W.findIn K (.ref C) "__setattr__" = some (some (.builtin "object.__setattr__"))
  kC : PySem.W.keepIn K (.ref C) = true
  ga : PySem.W.findIn K (.ref C) "__getattribute__" = some (some (.builtin "BaseException.__getattribute__"))
  gg : PySem.W.findIn K (.ref C) "__getattr__" = some none
  ex : PySem.W.subIn K (.ref C) (.type "BaseException") = some true
  ac : PySem.W.findIn K (.ref C) "__class__" = some (some (.builtin "object.__class__"))
  an : PySem.W.specialIn K (.builtin "object.__class__") "__get__" = some (some (.builtin "getset_descriptor.__get__"))
  tk : PySem.W.takesIn K (.builtin "object.__class__") = some true
  mo : PySem.W.mroIn K C (.type "object") = some true
  no : PySem.W.findIn K (.ref C) f = some none
  m : mg x = some (.ref C)
theorem ErX.clsIn {K : PySem.W.Frag} {mg : Str → Option Value} {x : Str} {C far : Addr} {f : Str} (h : ErX K mg x C far f) : ∃ cd, PySem.W.clsIn K C = some cd ∧ cd.mro = .ref C :: veM far := by
  obtain ⟨nm, q, N, bs, sn, sub, ab, col, dd, k0, k1, k2, k3, k5, l⟩ := h.l
  have e : PySem.W.clsIn K C = some { name := nm, bases := bs, mro := .ref C :: veM far, ns := N, qualname := q, hasDict := true, slotNames := sn, subclasses := sub, abstract := ab, collection := col, hasDel := false } := by unfold PySem.W.clsIn; rw [l] <;> rfl
  exact ⟨_, e, rfl⟩
theorem ErX.sub {K : PySem.W.Frag} {mg : Str → Option Value} {x : Str} {C far : Addr} {f : Str} (h : ErX K mg x C far f) (b : Value) : PySem.W.subIn K (.ref C) b = some ((Value.ref C :: veM far).contains b) := by
  obtain ⟨cd, e, em⟩ := h.clsIn
  show ((PySem.W.clsIn K C).bind fun cd => if cd.mro.isEmpty = true then none else some (cd.mro.contains b)) = _
  rw [e]
  show (if cd.mro.isEmpty = true then none else some (cd.mro.contains b)) = _
  rw [em]
  rfl
theorem ErX.isC {K : PySem.W.Frag} {mg : Str → Option Value} {x : Str} {C far : Addr} {f : Str} (h : ErX K mg x C far f) : (PySem.W.clsIn K C).isSome = true := by
  obtain ⟨cd, e, _⟩ := h.clsIn
  rw [e]
  rfl
theorem ErX.ty {K : PySem.W.Frag} {mg : Str → Option Value} {x : Str} {C far : Addr} {f : Str} (h : ErX K mg x C far f) : PySem.W.typeIn K (.ref C) = some (.type "type") := by
  obtain ⟨nm, q, N, bs, sn, sub, ab, col, dd, k0, k1, k2, k3, k5, l⟩ := h.l
  show (K.lookup C).map (fun x => x.cls) = _
  rw [l]
  rfl
theorem ErX.oxc {K : PySem.W.Frag} {mg : Str → Option Value} {x : Str} {C far : Addr} {f : Str} (h : ErX K mg x C far f) : OxC K C := by
  obtain ⟨nm, q, N, bs, sn, sub, ab, col, dd, k0, k1, k2, k3, k5, l⟩ := h.l
  exact ⟨⟨nm, q, N, bs, veM far, sn, sub, ab, col, dd, k0, k1, k2, k3, k5, "ValueError", "ValueError.__new__", "ValueError.__init__", _, PySem.F.excBase_ValueError, l, fun Y => PySem.HandSPX.refsVE_contains Y (veM far) rfl, fun self => PySem.HandSPX.refsVE_pass self _ rfl, (PySem.HandSPX.refsVE_contains "object" (veM far) rfl).trans (by decide +kernel)⟩, h.sa, h.kC, h.ga, h.gg, h.ex, h.ac, h.an, h.tk, h.mo⟩
theorem ErX.oexc {K : PySem.W.Frag} {mg : Str → Option Value} {x : Str} {C far : Addr} {f : Str} (h : ErX K mg x C far f) : OexC K C := by
  obtain ⟨nm, q, N, bs, sn, sub, ab, col, dd, k0, k1, k2, k3, k5, l⟩ := h.l
  exact ⟨⟨nm, q, N, bs, veM far, sn, sub, ab, col, dd, k0, k1, k2, k3, k5, l, rfl⟩, h.sa, h.ex, h.ty, h.kC⟩
/-- raised by one class, named by the other -/
theorem ErX.exm {K : PySem.W.Frag} {mg : Str → Option Value} {x y : Str} {C D far : Addr} {f g : Str} (h : ErX K mg x C far f) (h2 : ErX K mg y D far g) (n : D ≠ far) : PySem.W.exmOne K (.ref C) (.ref D) = some (decide (C = D)) := by
  have e1 : (PySem.W.subIn K (.ref D) (.type "BaseException") == some true) = true := by rw [h2.ex] <;> rfl
  have e2 : ((PySem.W.clsIn K D).isSome && PySem.W.typeIn K (.ref D) == some (.type "type")) = true := by rw [h2.isC, h2.ty] <;> rfl
  show (if (PySem.W.subIn K (.ref D) (.type "BaseException") == some true) = true then (if ((PySem.W.clsIn K D).isSome && PySem.W.typeIn K (.ref D) == some (.type "type")) = true then PySem.W.subIn K (.ref C) (.ref D) else none) else none) = _
  rw [if_pos e1, if_pos e2, h.sub]
  congr 1
  rw [List.contains_cons]
  have n2 : (Value.ref D == Value.ref far) = false := beq_eq_false_iff_ne.mpr fun z => n (Value.ref.inj z)
  have e3 : (veM far).contains (.ref D) = false := by
    rw [List.contains_cons, n2]
    rfl
  rw [e3, Bool.or_false]
  by_cases e : C = D
  · subst e
    rw [decide_eq_true rfl]
    exact beq_self_eq_true _
  · rw [decide_eq_false e]
    exact beq_eq_false_iff_ne.mpr fun z => e (Value.ref.inj z).symm

end K02

namespace K02
open PySem L2 SZ VR VX StX RT
section
variable {P : Program} {w : World} {K : PySem.W.Frag} {mg : Str → Option Value} {base : Heap}
theorem sx_InvalidText {C fI : Addr} {fd : FuncData} (T : OxC K C) (no : PySem.W.findIn K (.ref C) "value" = some none) (F : Fun K "__init__" "InvalidText.__init__" S_InvalidText___init__ fI fd) : FnOk P w K mg base CX0 1 fI fd [("self" : Str), "value"] (spOx K C "value") := by
  refine F.ok sc_InvalidText___init__ (fun vs H Q E h => ?_) (fun cdv A outer s H vs Q E hr h => ?_)
  · obtain ⟨a, v, rfl, _⟩ := h; rfl
  · obtain ⟨a, v, rfl, ha, q⟩ := h
    exact ⟨_, pss_one (ps_ox (pv 0) (pv 1)), ⟨_, rfl, _, rfl, a, C, rfl, T, no, ha, fun dx h1 h2 => q dx h1 h2⟩⟩
theorem sx_InvalidSyntax {C fI : Addr} {fd : FuncData} (T : OxC K C) (no : PySem.W.findIn K (.ref C) "position" = some none) (F : Fun K "__init__" "InvalidSyntax.__init__" S_InvalidSyntax___init__ fI fd) : FnOk P w K mg base CX0 1 fI fd [("self" : Str), "position"] (spOx K C "position") := by
  refine F.ok sc_InvalidSyntax___init__ (fun vs H Q E h => ?_) (fun cdv A outer s H vs Q E hr h => ?_)
  · obtain ⟨a, v, rfl, _⟩ := h; rfl
  · obtain ⟨a, v, rfl, ha, q⟩ := h
    exact ⟨_, pss_one (ps_ox (pv 0) (pv 1)), ⟨_, rfl, _, rfl, a, C, rfl, T, no, ha, fun dx h1 h2 => q dx h1 h2⟩⟩
theorem sx_TooLarge {C fI : Addr} {fd : FuncData} (T : OxC K C) (no : PySem.W.findIn K (.ref C) "word" = some none) (F : Fun K "__init__" "TooLarge.__init__" S_TooLarge___init__ fI fd) : FnOk P w K mg base CX0 1 fI fd [("self" : Str), "word"] (spOx K C "word") := by
  refine F.ok sc_TooLarge___init__ (fun vs H Q E h => ?_) (fun cdv A outer s H vs Q E hr h => ?_)
  · obtain ⟨a, v, rfl, _⟩ := h; rfl
  · obtain ⟨a, v, rfl, ha, q⟩ := h
    exact ⟨_, pss_one (ps_ox (pv 0) (pv 1)), ⟨_, rfl, _, rfl, a, C, rfl, T, no, ha, fun dx h1 h2 => q dx h1 h2⟩⟩
end
theorem all_mk {l : PySem.W.OpenLaw} {w : World} {K : PySem.W.Frag} {h : Heap} {mg : Str → Option Value} {fa : Addr}
    {C_FarError : Addr}
    {C_InvalidText : Addr}
    {N_InvalidText : Addr} {nm_InvalidText q_InvalidText : Str} {bs_InvalidText sb_InvalidText : List Value} {sn_InvalidText : List Str} {ab_InvalidText : Bool} {co_InvalidText : Option Bool} {dd_InvalidText : Option Addr} {x_InvalidText y_InvalidText zz_InvalidText u_InvalidText v_InvalidText : Option Value}
    {f_InvalidText___init__ : Addr} {oc_InvalidText___init__ kV_InvalidText___init__ dc_InvalidText___init__ pm_InvalidText___init__ cd_InvalidText___init__ ct_InvalidText___init__ : Value} {od_InvalidText___init__ an_InvalidText___init__ : Option Addr} {sl_InvalidText___init__ : Array (Option Value)}
    {C_InvalidSyntax : Addr}
    {N_InvalidSyntax : Addr} {nm_InvalidSyntax q_InvalidSyntax : Str} {bs_InvalidSyntax sb_InvalidSyntax : List Value} {sn_InvalidSyntax : List Str} {ab_InvalidSyntax : Bool} {co_InvalidSyntax : Option Bool} {dd_InvalidSyntax : Option Addr} {x_InvalidSyntax y_InvalidSyntax zz_InvalidSyntax u_InvalidSyntax v_InvalidSyntax : Option Value}
    {f_InvalidSyntax___init__ : Addr} {oc_InvalidSyntax___init__ kV_InvalidSyntax___init__ dc_InvalidSyntax___init__ pm_InvalidSyntax___init__ cd_InvalidSyntax___init__ ct_InvalidSyntax___init__ : Value} {od_InvalidSyntax___init__ an_InvalidSyntax___init__ : Option Addr} {sl_InvalidSyntax___init__ : Array (Option Value)}
    {C_TooLarge : Addr}
    {N_TooLarge : Addr} {nm_TooLarge q_TooLarge : Str} {bs_TooLarge sb_TooLarge : List Value} {sn_TooLarge : List Str} {ab_TooLarge : Bool} {co_TooLarge : Option Bool} {dd_TooLarge : Option Addr} {x_TooLarge y_TooLarge zz_TooLarge u_TooLarge v_TooLarge : Option Value}
    {f_TooLarge___init__ : Addr} {oc_TooLarge___init__ kV_TooLarge___init__ dc_TooLarge___init__ pm_TooLarge___init__ cd_TooLarge___init__ ct_TooLarge___init__ : Value} {od_TooLarge___init__ an_TooLarge___init__ : Option Addr} {sl_TooLarge___init__ : Array (Option Value)}
    {f_is_integer : Addr} {oc_is_integer kV_is_integer dc_is_integer pm_is_integer cd_is_integer ct_is_integer : Value} {od_is_integer an_is_integer : Option Addr} {sl_is_integer : Array (Option Value)}
    {f_trimmed : Addr} {oc_trimmed kV_trimmed dc_trimmed pm_trimmed cd_trimmed ct_trimmed : Value} {od_trimmed an_trimmed : Option Addr} {sl_trimmed : Array (Option Value)}
    {f_sum : Addr} {oc_sum kV_sum dc_sum pm_sum cd_sum ct_sum : Value} {od_sum an_sum : Option Addr} {sl_sum : Array (Option Value)}
    {f_product : Addr} {oc_product kV_product dc_product pm_product cd_product ct_product : Value} {od_product an_product : Option Addr} {sl_product : Array (Option Value)}
    {f_negative : Addr} {oc_negative kV_negative dc_negative pm_negative cd_negative ct_negative : Value} {od_negative an_negative : Option Addr} {sl_negative : Array (Option Value)}
    {f_is_operand : Addr} {oc_is_operand kV_is_operand dc_is_operand pm_is_operand cd_is_operand ct_is_operand : Value} {od_is_operand an_is_operand : Option Addr} {sl_is_operand : Array (Option Value)}
    {f_parts_of : Addr} {oc_parts_of kV_parts_of dc_parts_of pm_parts_of cd_parts_of ct_parts_of : Value} {od_parts_of an_parts_of : Option Addr} {sl_parts_of : Array (Option Value)}
    {C_Size : Addr}
    {T1_Size___init__ t0_Size___init__ : Addr} {dc1_Size___init__ : Value} {dd1_Size___init__ dd2_Size___init__ : Option Addr} {n1_Size___init__ n2_Size___init__ : Nat} {ds1_Size___init__ ds2_Size___init__ : Array (Option Value)}
    {f_Size___init__ : Addr} {oc_Size___init__ kV_Size___init__ dc_Size___init__ pm_Size___init__ cd_Size___init__ ct_Size___init__ : Value} {od_Size___init__ an_Size___init__ : Option Addr} {sl_Size___init__ : Array (Option Value)}
    {p_Size_coefficients : Addr} {rest_Size_coefficients : List Value}
    {f_Size_coefficients : Addr} {oc_Size_coefficients kV_Size_coefficients dc_Size_coefficients pm_Size_coefficients cd_Size_coefficients ct_Size_coefficients : Value} {od_Size_coefficients an_Size_coefficients : Option Addr} {sl_Size_coefficients : Array (Option Value)}
    {p_Size_degree : Addr} {rest_Size_degree : List Value}
    {f_Size_degree : Addr} {oc_Size_degree kV_Size_degree dc_Size_degree pm_Size_degree cd_Size_degree ct_Size_degree : Value} {od_Size_degree an_Size_degree : Option Addr} {sl_Size_degree : Array (Option Value)}
    {f_Size___add__ : Addr} {oc_Size___add__ kV_Size___add__ dc_Size___add__ pm_Size___add__ cd_Size___add__ ct_Size___add__ : Value} {od_Size___add__ an_Size___add__ : Option Addr} {sl_Size___add__ : Array (Option Value)}
    {f_Size___sub__ : Addr} {oc_Size___sub__ kV_Size___sub__ dc_Size___sub__ pm_Size___sub__ cd_Size___sub__ ct_Size___sub__ : Value} {od_Size___sub__ an_Size___sub__ : Option Addr} {sl_Size___sub__ : Array (Option Value)}
    {f_Size___mul__ : Addr} {oc_Size___mul__ kV_Size___mul__ dc_Size___mul__ pm_Size___mul__ cd_Size___mul__ ct_Size___mul__ : Value} {od_Size___mul__ an_Size___mul__ : Option Addr} {sl_Size___mul__ : Array (Option Value)}
    {f_Size___neg__ : Addr} {oc_Size___neg__ kV_Size___neg__ dc_Size___neg__ pm_Size___neg__ cd_Size___neg__ ct_Size___neg__ : Value} {od_Size___neg__ an_Size___neg__ : Option Addr} {sl_Size___neg__ : Array (Option Value)}
    {f_Size___call__ : Addr} {oc_Size___call__ kV_Size___call__ dc_Size___call__ pm_Size___call__ cd_Size___call__ ct_Size___call__ : Value} {od_Size___call__ an_Size___call__ : Option Addr} {sl_Size___call__ : Array (Option Value)}
    {f_Size___eq__ : Addr} {oc_Size___eq__ kV_Size___eq__ dc_Size___eq__ pm_Size___eq__ cd_Size___eq__ ct_Size___eq__ : Value} {od_Size___eq__ an_Size___eq__ : Option Addr} {sl_Size___eq__ : Array (Option Value)}
    {t_LETTERS : Tok}
    {t_DIGITS : Tok}
    {t_GAPS : Tok}
    {t_MOST_DIGITS : Tok}
    {f_is_word : Addr} {oc_is_word kV_is_word dc_is_word pm_is_word cd_is_word ct_is_word : Value} {od_is_word an_is_word : Option Addr} {sl_is_word : Array (Option Value)}
    {f_is_number : Addr} {oc_is_number kV_is_number dc_is_number pm_is_number cd_is_number ct_is_number : Value} {od_is_number an_is_number : Option Addr} {sl_is_number : Array (Option Value)}
    {f_end_of_run : Addr} {oc_end_of_run kV_end_of_run dc_end_of_run pm_end_of_run cd_end_of_run ct_end_of_run : Value} {od_end_of_run an_end_of_run : Option Addr} {sl_end_of_run : Array (Option Value)}
    {f_tokens_of : Addr} {oc_tokens_of kV_tokens_of dc_tokens_of pm_tokens_of cd_tokens_of ct_tokens_of : Value} {od_tokens_of an_tokens_of : Option Addr} {sl_tokens_of : Array (Option Value)}
    {C_Reader : Addr}
    {f_Reader___init__ : Addr} {oc_Reader___init__ kV_Reader___init__ dc_Reader___init__ pm_Reader___init__ cd_Reader___init__ ct_Reader___init__ : Value} {od_Reader___init__ an_Reader___init__ : Option Addr} {sl_Reader___init__ : Array (Option Value)}
    {f_Reader_token : Addr} {oc_Reader_token kV_Reader_token dc_Reader_token pm_Reader_token cd_Reader_token ct_Reader_token : Value} {od_Reader_token an_Reader_token : Option Addr} {sl_Reader_token : Array (Option Value)}
    {f_Reader_place : Addr} {oc_Reader_place kV_Reader_place dc_Reader_place pm_Reader_place cd_Reader_place ct_Reader_place : Value} {od_Reader_place an_Reader_place : Option Addr} {sl_Reader_place : Array (Option Value)}
    {f_Reader_pass_any : Addr} {oc_Reader_pass_any kV_Reader_pass_any dc_Reader_pass_any pm_Reader_pass_any cd_Reader_pass_any ct_Reader_pass_any : Value} {od_Reader_pass_any an_Reader_pass_any : Option Addr} {sl_Reader_pass_any : Array (Option Value)}
    {f_Reader_passes : Addr} {oc_Reader_passes kV_Reader_passes dc_Reader_passes pm_Reader_passes cd_Reader_passes ct_Reader_passes : Value} {od_Reader_passes an_Reader_passes : Option Addr} {sl_Reader_passes : Array (Option Value)}
    {f_Reader_pass_only : Addr} {oc_Reader_pass_only kV_Reader_pass_only dc_Reader_pass_only pm_Reader_pass_only cd_Reader_pass_only ct_Reader_pass_only : Value} {od_Reader_pass_only an_Reader_pass_only : Option Addr} {sl_Reader_pass_only : Array (Option Value)}
    {f_Reader_pass_one : Addr} {oc_Reader_pass_one kV_Reader_pass_one dc_Reader_pass_one pm_Reader_pass_one cd_Reader_pass_one ct_Reader_pass_one : Value} {od_Reader_pass_one an_Reader_pass_one : Option Addr} {sl_Reader_pass_one : Array (Option Value)}
    {f_Reader_pass_number : Addr} {oc_Reader_pass_number kV_Reader_pass_number dc_Reader_pass_number pm_Reader_pass_number cd_Reader_pass_number ct_Reader_pass_number : Value} {od_Reader_pass_number an_Reader_pass_number : Option Addr} {sl_Reader_pass_number : Array (Option Value)}
    {f_Reader_pass_end : Addr} {oc_Reader_pass_end kV_Reader_pass_end dc_Reader_pass_end pm_Reader_pass_end cd_Reader_pass_end ct_Reader_pass_end : Value} {od_Reader_pass_end an_Reader_pass_end : Option Addr} {sl_Reader_pass_end : Array (Option Value)}
    {t_KEYWORDS : Addr} {t_KEYWORDS0 t_KEYWORDS1 t_KEYWORDS2 t_KEYWORDS3 t_KEYWORDS4 t_KEYWORDS5 : Tok} {dd_KEYWORDS : Option Addr} {n_KEYWORDS : Nat} {ds_KEYWORDS : Array (Option Value)}
    {t_STATEMENTS : Addr} {t_STATEMENTS0 t_STATEMENTS1 t_STATEMENTS2 t_STATEMENTS3 : Tok} {dd_STATEMENTS : Option Addr} {n_STATEMENTS : Nat} {ds_STATEMENTS : Array (Option Value)}
    {t_MOST_POWER : Tok}
    {t_MOST_LOOPS : Tok}
    {f_is_name : Addr} {oc_is_name kV_is_name dc_is_name pm_is_name cd_is_name ct_is_name : Value} {od_is_name an_is_name : Option Addr} {sl_is_name : Array (Option Value)}
    {f_parse : Addr} {oc_parse kV_parse dc_parse pm_parse cd_parse ct_parse : Value} {od_parse an_parse : Option Addr} {sl_parse : Array (Option Value)}
    {f_reader : Addr} {oc_reader kV_reader dc_reader pm_reader cd_reader ct_reader : Value} {od_reader an_reader : Option Addr} {sl_reader : Array (Option Value)}
    {f_name : Addr} {oc_name kV_name dc_name pm_name cd_name ct_name : Value} {od_name an_name : Option Addr} {sl_name : Array (Option Value)}
    {f_block : Addr} {oc_block kV_block dc_block pm_block cd_block ct_block : Value} {od_block an_block : Option Addr} {sl_block : Array (Option Value)}
    {f_statement : Addr} {oc_statement kV_statement dc_statement pm_statement cd_statement ct_statement : Value} {od_statement an_statement : Option Addr} {sl_statement : Array (Option Value)}
    {f_loop : Addr} {oc_loop kV_loop dc_loop pm_loop cd_loop ct_loop : Value} {od_loop an_loop : Option Addr} {sl_loop : Array (Option Value)}
    {f_size : Addr} {oc_size kV_size dc_size pm_size cd_size ct_size : Value} {od_size an_size : Option Addr} {sl_size : Array (Option Value)}
    {f_index : Addr} {oc_index kV_index dc_index pm_index cd_index ct_index : Value} {od_index an_index : Option Addr} {sl_index : Array (Option Value)}
    {f_sums : Addr} {oc_sums kV_sums dc_sums pm_sums cd_sums ct_sums : Value} {od_sums an_sums : Option Addr} {sl_sums : Array (Option Value)}
    {f_part : Addr} {oc_part kV_part dc_part pm_part cd_part ct_part : Value} {od_part an_part : Option Addr} {sl_part : Array (Option Value)}
    {f_law_pool : Addr} {oc_law_pool kV_law_pool dc_law_pool pm_law_pool cd_law_pool ct_law_pool : Value} {od_law_pool an_law_pool : Option Addr} {sl_law_pool : Array (Option Value)}
    {f_law_take : Addr} {oc_law_take kV_law_take dc_law_take pm_law_take cd_law_take ct_law_take : Value} {od_law_take an_law_take : Option Addr} {sl_law_take : Array (Option Value)}
    {f_law_due : Addr} {oc_law_due kV_law_due dc_law_due pm_law_due cd_law_due ct_law_due : Value} {od_law_due an_law_due : Option Addr} {sl_law_due : Array (Option Value)}
    {f_law_word : Addr} {oc_law_word kV_law_word dc_law_word pm_law_word cd_law_word ct_law_word : Value} {od_law_word an_law_word : Option Addr} {sl_law_word : Array (Option Value)}
    {f_law_bent : Addr} {oc_law_bent kV_law_bent dc_law_bent pm_law_bent cd_law_bent ct_law_bent : Value} {od_law_bent an_law_bent : Option Addr} {sl_law_bent : Array (Option Value)}
    {f_law_is_read : Addr} {oc_law_is_read kV_law_is_read dc_law_is_read pm_law_is_read cd_law_is_read ct_law_is_read : Value} {od_law_is_read an_law_is_read : Option Addr} {sl_law_is_read : Array (Option Value)}
    {f_law : Addr} {oc_law kV_law dc_law pm_law cd_law ct_law : Value} {od_law an_law : Option Addr} {sl_law : Array (Option Value)}
    {ia1 ia2 : Option Value}
    (X : K.In h) (G : h.Ns mainGlobals mg) (hfa : mg "law" = some (.ref fa))
    (aC_FarError : PySem.W.nsIn K mainGlobals "FarError" = some (some (.ref C_FarError)))
    (aC_InvalidText : PySem.W.nsIn K mainGlobals "InvalidText" = some (some (.ref C_InvalidText)))
    (l_InvalidText : K.lookup C_InvalidText = some (excClassObj nm_InvalidText q_InvalidText C_InvalidText N_InvalidText bs_InvalidText (veM C_FarError) true sn_InvalidText sb_InvalidText ab_InvalidText co_InvalidText dd_InvalidText x_InvalidText y_InvalidText zz_InvalidText u_InvalidText v_InvalidText "ValueError.__new__"))
    (sa_InvalidText : PySem.W.findIn K (.ref C_InvalidText) "__setattr__" = some (some (.builtin "object.__setattr__")))
    (kC_InvalidText : PySem.W.keepIn K (.ref C_InvalidText) = true)
    (ga_InvalidText : PySem.W.findIn K (.ref C_InvalidText) "__getattribute__" = some (some (.builtin "BaseException.__getattribute__")))
    (gg_InvalidText : PySem.W.findIn K (.ref C_InvalidText) "__getattr__" = some none)
    (ex_InvalidText : PySem.W.subIn K (.ref C_InvalidText) (.type "BaseException") = some true)
    (ac_InvalidText : PySem.W.findIn K (.ref C_InvalidText) "__class__" = some (some (.builtin "object.__class__")))
    (mo_InvalidText : PySem.W.mroIn K C_InvalidText (.type "object") = some true)
    (no_InvalidText : PySem.W.findIn K (.ref C_InvalidText) "value" = some none)
    (i_InvalidText : PySem.W.findIn K (.ref C_InvalidText) "__init__" = some (some (.ref f_InvalidText___init__)))
    (t_InvalidText : PySem.W.isFn K (.ref f_InvalidText___init__) = true)
    (l_InvalidText___init__ : K.lookup f_InvalidText___init__ = some ⟨oc_InvalidText___init__, od_InvalidText___init__, .func (PySem.W.fnOf "__init__" "InvalidText.__init__" (defArgs S_InvalidText___init__) (defBody S_InvalidText___init__) (defScope S_InvalidText___init__) .none kV_InvalidText___init__ dc_InvalidText___init__ pm_InvalidText___init__ an_InvalidText___init__ cd_InvalidText___init__ ct_InvalidText___init__), sl_InvalidText___init__⟩)
    (c_InvalidText___init__ : PySem.W.codeIn K cd_InvalidText___init__ "InvalidText.__init__" = true)
    (k_InvalidText___init__ : PySem.W.keepIn K (.ref f_InvalidText___init__) = true)
    (aC_InvalidSyntax : PySem.W.nsIn K mainGlobals "InvalidSyntax" = some (some (.ref C_InvalidSyntax)))
    (l_InvalidSyntax : K.lookup C_InvalidSyntax = some (excClassObj nm_InvalidSyntax q_InvalidSyntax C_InvalidSyntax N_InvalidSyntax bs_InvalidSyntax (veM C_FarError) true sn_InvalidSyntax sb_InvalidSyntax ab_InvalidSyntax co_InvalidSyntax dd_InvalidSyntax x_InvalidSyntax y_InvalidSyntax zz_InvalidSyntax u_InvalidSyntax v_InvalidSyntax "ValueError.__new__"))
    (sa_InvalidSyntax : PySem.W.findIn K (.ref C_InvalidSyntax) "__setattr__" = some (some (.builtin "object.__setattr__")))
    (kC_InvalidSyntax : PySem.W.keepIn K (.ref C_InvalidSyntax) = true)
    (ga_InvalidSyntax : PySem.W.findIn K (.ref C_InvalidSyntax) "__getattribute__" = some (some (.builtin "BaseException.__getattribute__")))
    (gg_InvalidSyntax : PySem.W.findIn K (.ref C_InvalidSyntax) "__getattr__" = some none)
    (ex_InvalidSyntax : PySem.W.subIn K (.ref C_InvalidSyntax) (.type "BaseException") = some true)
    (ac_InvalidSyntax : PySem.W.findIn K (.ref C_InvalidSyntax) "__class__" = some (some (.builtin "object.__class__")))
    (mo_InvalidSyntax : PySem.W.mroIn K C_InvalidSyntax (.type "object") = some true)
    (no_InvalidSyntax : PySem.W.findIn K (.ref C_InvalidSyntax) "position" = some none)
    (i_InvalidSyntax : PySem.W.findIn K (.ref C_InvalidSyntax) "__init__" = some (some (.ref f_InvalidSyntax___init__)))
    (t_InvalidSyntax : PySem.W.isFn K (.ref f_InvalidSyntax___init__) = true)
    (l_InvalidSyntax___init__ : K.lookup f_InvalidSyntax___init__ = some ⟨oc_InvalidSyntax___init__, od_InvalidSyntax___init__, .func (PySem.W.fnOf "__init__" "InvalidSyntax.__init__" (defArgs S_InvalidSyntax___init__) (defBody S_InvalidSyntax___init__) (defScope S_InvalidSyntax___init__) .none kV_InvalidSyntax___init__ dc_InvalidSyntax___init__ pm_InvalidSyntax___init__ an_InvalidSyntax___init__ cd_InvalidSyntax___init__ ct_InvalidSyntax___init__), sl_InvalidSyntax___init__⟩)
    (c_InvalidSyntax___init__ : PySem.W.codeIn K cd_InvalidSyntax___init__ "InvalidSyntax.__init__" = true)
    (k_InvalidSyntax___init__ : PySem.W.keepIn K (.ref f_InvalidSyntax___init__) = true)
    (aC_TooLarge : PySem.W.nsIn K mainGlobals "TooLarge" = some (some (.ref C_TooLarge)))
    (l_TooLarge : K.lookup C_TooLarge = some (excClassObj nm_TooLarge q_TooLarge C_TooLarge N_TooLarge bs_TooLarge (veM C_FarError) true sn_TooLarge sb_TooLarge ab_TooLarge co_TooLarge dd_TooLarge x_TooLarge y_TooLarge zz_TooLarge u_TooLarge v_TooLarge "ValueError.__new__"))
    (sa_TooLarge : PySem.W.findIn K (.ref C_TooLarge) "__setattr__" = some (some (.builtin "object.__setattr__")))
    (kC_TooLarge : PySem.W.keepIn K (.ref C_TooLarge) = true)
    (ga_TooLarge : PySem.W.findIn K (.ref C_TooLarge) "__getattribute__" = some (some (.builtin "BaseException.__getattribute__")))
    (gg_TooLarge : PySem.W.findIn K (.ref C_TooLarge) "__getattr__" = some none)
    (ex_TooLarge : PySem.W.subIn K (.ref C_TooLarge) (.type "BaseException") = some true)
    (ac_TooLarge : PySem.W.findIn K (.ref C_TooLarge) "__class__" = some (some (.builtin "object.__class__")))
    (mo_TooLarge : PySem.W.mroIn K C_TooLarge (.type "object") = some true)
    (no_TooLarge : PySem.W.findIn K (.ref C_TooLarge) "word" = some none)
    (i_TooLarge : PySem.W.findIn K (.ref C_TooLarge) "__init__" = some (some (.ref f_TooLarge___init__)))
    (t_TooLarge : PySem.W.isFn K (.ref f_TooLarge___init__) = true)
    (l_TooLarge___init__ : K.lookup f_TooLarge___init__ = some ⟨oc_TooLarge___init__, od_TooLarge___init__, .func (PySem.W.fnOf "__init__" "TooLarge.__init__" (defArgs S_TooLarge___init__) (defBody S_TooLarge___init__) (defScope S_TooLarge___init__) .none kV_TooLarge___init__ dc_TooLarge___init__ pm_TooLarge___init__ an_TooLarge___init__ cd_TooLarge___init__ ct_TooLarge___init__), sl_TooLarge___init__⟩)
    (c_TooLarge___init__ : PySem.W.codeIn K cd_TooLarge___init__ "TooLarge.__init__" = true)
    (k_TooLarge___init__ : PySem.W.keepIn K (.ref f_TooLarge___init__) = true)
    (a_is_integer : PySem.W.nsIn K mainGlobals "is_integer" = some (some (.ref f_is_integer)))
    (l_is_integer : K.lookup f_is_integer = some ⟨oc_is_integer, od_is_integer, .func (PySem.W.fnOf "is_integer" "is_integer" (defArgs S_is_integer) (defBody S_is_integer) (defScope S_is_integer) .none kV_is_integer dc_is_integer pm_is_integer an_is_integer cd_is_integer ct_is_integer), sl_is_integer⟩)
    (c_is_integer : PySem.W.codeIn K cd_is_integer "is_integer" = true)
    (k_is_integer : PySem.W.keepIn K (.ref f_is_integer) = true)
    (a_trimmed : PySem.W.nsIn K mainGlobals "_trimmed" = some (some (.ref f_trimmed)))
    (l_trimmed : K.lookup f_trimmed = some ⟨oc_trimmed, od_trimmed, .func (PySem.W.fnOf "_trimmed" "_trimmed" (defArgs S_trimmed) (defBody S_trimmed) (defScope S_trimmed) .none kV_trimmed dc_trimmed pm_trimmed an_trimmed cd_trimmed ct_trimmed), sl_trimmed⟩)
    (c_trimmed : PySem.W.codeIn K cd_trimmed "_trimmed" = true)
    (k_trimmed : PySem.W.keepIn K (.ref f_trimmed) = true)
    (a_sum : PySem.W.nsIn K mainGlobals "_sum" = some (some (.ref f_sum)))
    (l_sum : K.lookup f_sum = some ⟨oc_sum, od_sum, .func (PySem.W.fnOf "_sum" "_sum" (defArgs S_sum) (defBody S_sum) (defScope S_sum) .none kV_sum dc_sum pm_sum an_sum cd_sum ct_sum), sl_sum⟩)
    (c_sum : PySem.W.codeIn K cd_sum "_sum" = true)
    (k_sum : PySem.W.keepIn K (.ref f_sum) = true)
    (a_product : PySem.W.nsIn K mainGlobals "_product" = some (some (.ref f_product)))
    (l_product : K.lookup f_product = some ⟨oc_product, od_product, .func (PySem.W.fnOf "_product" "_product" (defArgs S_product) (defBody S_product) (defScope S_product) .none kV_product dc_product pm_product an_product cd_product ct_product), sl_product⟩)
    (c_product : PySem.W.codeIn K cd_product "_product" = true)
    (k_product : PySem.W.keepIn K (.ref f_product) = true)
    (a_negative : PySem.W.nsIn K mainGlobals "_negative" = some (some (.ref f_negative)))
    (l_negative : K.lookup f_negative = some ⟨oc_negative, od_negative, .func (PySem.W.fnOf "_negative" "_negative" (defArgs S_negative) (defBody S_negative) (defScope S_negative) .none kV_negative dc_negative pm_negative an_negative cd_negative ct_negative), sl_negative⟩)
    (c_negative : PySem.W.codeIn K cd_negative "_negative" = true)
    (k_negative : PySem.W.keepIn K (.ref f_negative) = true)
    (a_is_operand : PySem.W.nsIn K mainGlobals "_is_operand" = some (some (.ref f_is_operand)))
    (l_is_operand : K.lookup f_is_operand = some ⟨oc_is_operand, od_is_operand, .func (PySem.W.fnOf "_is_operand" "_is_operand" (defArgs S_is_operand) (defBody S_is_operand) (defScope S_is_operand) .none kV_is_operand dc_is_operand pm_is_operand an_is_operand cd_is_operand ct_is_operand), sl_is_operand⟩)
    (c_is_operand : PySem.W.codeIn K cd_is_operand "_is_operand" = true)
    (k_is_operand : PySem.W.keepIn K (.ref f_is_operand) = true)
    (a_parts_of : PySem.W.nsIn K mainGlobals "_parts_of" = some (some (.ref f_parts_of)))
    (l_parts_of : K.lookup f_parts_of = some ⟨oc_parts_of, od_parts_of, .func (PySem.W.fnOf "_parts_of" "_parts_of" (defArgs S_parts_of) (defBody S_parts_of) (defScope S_parts_of) .none kV_parts_of dc_parts_of pm_parts_of an_parts_of cd_parts_of ct_parts_of), sl_parts_of⟩)
    (c_parts_of : PySem.W.codeIn K cd_parts_of "_parts_of" = true)
    (k_parts_of : PySem.W.keepIn K (.ref f_parts_of) = true)
    (aC_Size : PySem.W.nsIn K mainGlobals "Size" = some (some (.ref C_Size)))
    (pg_Size : PySem.W.plainGet K C_Size Str.empty = true)
    (hd_Size : PySem.W.hasDictIn K C_Size = true)
    (po_Size : PySem.W.plainOver K C_Size = true)
    (sa_Size : PySem.W.findIn K (.ref C_Size) "__setattr__" = some (some (.builtin "object.__setattr__")))
    (mk_Size : PySem.W.makesIn K C_Size = true)
    (kc_Size : PySem.W.keepIn K (.ref C_Size) = true)
    (cc_Size : PySem.W.findIn K (.ref C_Size) "__class__" = some (some (.builtin "object.__class__")))
    (cm_Size : PySem.W.mroIn K C_Size (.type "object") = some true)
    (ic_Size : PySem.W.isClsIn K C_Size = true)
    (tc_Size : PySem.W.typeIn K (.ref C_Size) = some (.type "type"))
    (cgO : PySem.W.specialIn K (.builtin "object.__class__") "__get__" = some (some (.builtin "getset_descriptor.__get__")))
    (ctO : PySem.W.takesIn K (.builtin "object.__class__") = some true)
    (np_Size_parts : PySem.W.findIn K (.ref C_Size) "_parts" = some none)
    (a_Size___init__ : PySem.W.findIn K (.ref C_Size) "__init__" = some (some (.ref f_Size___init__)))
    (i_Size___init__ : PySem.W.isFn K (.ref f_Size___init__) = true)
    (l_Size___init__ : K.lookup f_Size___init__ = some ⟨oc_Size___init__, od_Size___init__, .func (PySem.W.fnOf "__init__" "Size.__init__" (defArgs S_Size___init__) (defBody S_Size___init__) (defScope S_Size___init__) (.ref T1_Size___init__) kV_Size___init__ dc_Size___init__ pm_Size___init__ an_Size___init__ cd_Size___init__ ct_Size___init__), sl_Size___init__⟩)
    (c_Size___init__ : PySem.W.codeIn K cd_Size___init__ "Size.__init__" = true)
    (k_Size___init__ : PySem.W.keepIn K (.ref f_Size___init__) = true)
    (d1_Size___init__ : K.lookup T1_Size___init__ = some ⟨dc1_Size___init__, dd1_Size___init__, .seq #[.ref t0_Size___init__] n1_Size___init__, ds1_Size___init__⟩)
    (d2_Size___init__ : K.lookup t0_Size___init__ = some ⟨.type "tuple", dd2_Size___init__, .seq #[] n2_Size___init__, ds2_Size___init__⟩)
    (pa_Size_coefficients : PySem.W.findIn K (.ref C_Size) "coefficients" = some (some (.ref p_Size_coefficients)))
    (pg_Size_coefficients : PySem.W.specialIn K (.ref p_Size_coefficients) "__get__" = some (some (.builtin "property.__get__")))
    (pt_Size_coefficients : PySem.W.takesIn K (.ref p_Size_coefficients) = some true)
    (pr_Size_coefficients : PySem.W.recIn K p_Size_coefficients "property" = some (.ref f_Size_coefficients :: rest_Size_coefficients))
    (l_Size_coefficients : K.lookup f_Size_coefficients = some ⟨oc_Size_coefficients, od_Size_coefficients, .func (PySem.W.fnOf "coefficients" "Size.coefficients" (defArgs S_Size_coefficients) (defBody S_Size_coefficients) (defScope S_Size_coefficients) .none kV_Size_coefficients dc_Size_coefficients pm_Size_coefficients an_Size_coefficients cd_Size_coefficients ct_Size_coefficients), sl_Size_coefficients⟩)
    (c_Size_coefficients : PySem.W.codeIn K cd_Size_coefficients "Size.coefficients" = true)
    (k_Size_coefficients : PySem.W.keepIn K (.ref f_Size_coefficients) = true)
    (pa_Size_degree : PySem.W.findIn K (.ref C_Size) "degree" = some (some (.ref p_Size_degree)))
    (pg_Size_degree : PySem.W.specialIn K (.ref p_Size_degree) "__get__" = some (some (.builtin "property.__get__")))
    (pt_Size_degree : PySem.W.takesIn K (.ref p_Size_degree) = some true)
    (pr_Size_degree : PySem.W.recIn K p_Size_degree "property" = some (.ref f_Size_degree :: rest_Size_degree))
    (l_Size_degree : K.lookup f_Size_degree = some ⟨oc_Size_degree, od_Size_degree, .func (PySem.W.fnOf "degree" "Size.degree" (defArgs S_Size_degree) (defBody S_Size_degree) (defScope S_Size_degree) .none kV_Size_degree dc_Size_degree pm_Size_degree an_Size_degree cd_Size_degree ct_Size_degree), sl_Size_degree⟩)
    (c_Size_degree : PySem.W.codeIn K cd_Size_degree "Size.degree" = true)
    (k_Size_degree : PySem.W.keepIn K (.ref f_Size_degree) = true)
    (a_Size___add__ : PySem.W.findIn K (.ref C_Size) "__add__" = some (some (.ref f_Size___add__)))
    (i_Size___add__ : PySem.W.isFn K (.ref f_Size___add__) = true)
    (l_Size___add__ : K.lookup f_Size___add__ = some ⟨oc_Size___add__, od_Size___add__, .func (PySem.W.fnOf "__add__" "Size.__add__" (defArgs S_Size___add__) (defBody S_Size___add__) (defScope S_Size___add__) .none kV_Size___add__ dc_Size___add__ pm_Size___add__ an_Size___add__ cd_Size___add__ ct_Size___add__), sl_Size___add__⟩)
    (c_Size___add__ : PySem.W.codeIn K cd_Size___add__ "Size.__add__" = true)
    (k_Size___add__ : PySem.W.keepIn K (.ref f_Size___add__) = true)
    (a_Size___sub__ : PySem.W.findIn K (.ref C_Size) "__sub__" = some (some (.ref f_Size___sub__)))
    (i_Size___sub__ : PySem.W.isFn K (.ref f_Size___sub__) = true)
    (l_Size___sub__ : K.lookup f_Size___sub__ = some ⟨oc_Size___sub__, od_Size___sub__, .func (PySem.W.fnOf "__sub__" "Size.__sub__" (defArgs S_Size___sub__) (defBody S_Size___sub__) (defScope S_Size___sub__) .none kV_Size___sub__ dc_Size___sub__ pm_Size___sub__ an_Size___sub__ cd_Size___sub__ ct_Size___sub__), sl_Size___sub__⟩)
    (c_Size___sub__ : PySem.W.codeIn K cd_Size___sub__ "Size.__sub__" = true)
    (k_Size___sub__ : PySem.W.keepIn K (.ref f_Size___sub__) = true)
    (a_Size___mul__ : PySem.W.findIn K (.ref C_Size) "__mul__" = some (some (.ref f_Size___mul__)))
    (i_Size___mul__ : PySem.W.isFn K (.ref f_Size___mul__) = true)
    (l_Size___mul__ : K.lookup f_Size___mul__ = some ⟨oc_Size___mul__, od_Size___mul__, .func (PySem.W.fnOf "__mul__" "Size.__mul__" (defArgs S_Size___mul__) (defBody S_Size___mul__) (defScope S_Size___mul__) .none kV_Size___mul__ dc_Size___mul__ pm_Size___mul__ an_Size___mul__ cd_Size___mul__ ct_Size___mul__), sl_Size___mul__⟩)
    (c_Size___mul__ : PySem.W.codeIn K cd_Size___mul__ "Size.__mul__" = true)
    (k_Size___mul__ : PySem.W.keepIn K (.ref f_Size___mul__) = true)
    (a_Size___neg__ : PySem.W.findIn K (.ref C_Size) "__neg__" = some (some (.ref f_Size___neg__)))
    (i_Size___neg__ : PySem.W.isFn K (.ref f_Size___neg__) = true)
    (l_Size___neg__ : K.lookup f_Size___neg__ = some ⟨oc_Size___neg__, od_Size___neg__, .func (PySem.W.fnOf "__neg__" "Size.__neg__" (defArgs S_Size___neg__) (defBody S_Size___neg__) (defScope S_Size___neg__) .none kV_Size___neg__ dc_Size___neg__ pm_Size___neg__ an_Size___neg__ cd_Size___neg__ ct_Size___neg__), sl_Size___neg__⟩)
    (c_Size___neg__ : PySem.W.codeIn K cd_Size___neg__ "Size.__neg__" = true)
    (k_Size___neg__ : PySem.W.keepIn K (.ref f_Size___neg__) = true)
    (a_Size___call__ : PySem.W.findIn K (.ref C_Size) "__call__" = some (some (.ref f_Size___call__)))
    (i_Size___call__ : PySem.W.isFn K (.ref f_Size___call__) = true)
    (l_Size___call__ : K.lookup f_Size___call__ = some ⟨oc_Size___call__, od_Size___call__, .func (PySem.W.fnOf "__call__" "Size.__call__" (defArgs S_Size___call__) (defBody S_Size___call__) (defScope S_Size___call__) .none kV_Size___call__ dc_Size___call__ pm_Size___call__ an_Size___call__ cd_Size___call__ ct_Size___call__), sl_Size___call__⟩)
    (c_Size___call__ : PySem.W.codeIn K cd_Size___call__ "Size.__call__" = true)
    (k_Size___call__ : PySem.W.keepIn K (.ref f_Size___call__) = true)
    (a_Size___eq__ : PySem.W.findIn K (.ref C_Size) "__eq__" = some (some (.ref f_Size___eq__)))
    (i_Size___eq__ : PySem.W.isFn K (.ref f_Size___eq__) = true)
    (l_Size___eq__ : K.lookup f_Size___eq__ = some ⟨oc_Size___eq__, od_Size___eq__, .func (PySem.W.fnOf "__eq__" "Size.__eq__" (defArgs S_Size___eq__) (defBody S_Size___eq__) (defScope S_Size___eq__) .none kV_Size___eq__ dc_Size___eq__ pm_Size___eq__ an_Size___eq__ cd_Size___eq__ ct_Size___eq__), sl_Size___eq__⟩)
    (c_Size___eq__ : PySem.W.codeIn K cd_Size___eq__ "Size.__eq__" = true)
    (k_Size___eq__ : PySem.W.keepIn K (.ref f_Size___eq__) = true)
    (a_LETTERS : PySem.W.nsIn K mainGlobals "_LETTERS" = some (some (.str (Str.ofString "abcdefghijklmnopqrstuvwxyz") t_LETTERS)))
    (a_DIGITS : PySem.W.nsIn K mainGlobals "_DIGITS" = some (some (.str (Str.ofString "0123456789") t_DIGITS)))
    (a_GAPS : PySem.W.nsIn K mainGlobals "_GAPS" = some (some (.str (Str.ofString " \n") t_GAPS)))
    (a_MOST_DIGITS : PySem.W.nsIn K mainGlobals "_MOST_DIGITS" = some (some (.int 150 t_MOST_DIGITS)))
    (a_is_word : PySem.W.nsIn K mainGlobals "is_word" = some (some (.ref f_is_word)))
    (l_is_word : K.lookup f_is_word = some ⟨oc_is_word, od_is_word, .func (PySem.W.fnOf "is_word" "is_word" (defArgs S_is_word) (defBody S_is_word) (defScope S_is_word) .none kV_is_word dc_is_word pm_is_word an_is_word cd_is_word ct_is_word), sl_is_word⟩)
    (c_is_word : PySem.W.codeIn K cd_is_word "is_word" = true)
    (k_is_word : PySem.W.keepIn K (.ref f_is_word) = true)
    (a_is_number : PySem.W.nsIn K mainGlobals "is_number" = some (some (.ref f_is_number)))
    (l_is_number : K.lookup f_is_number = some ⟨oc_is_number, od_is_number, .func (PySem.W.fnOf "is_number" "is_number" (defArgs S_is_number) (defBody S_is_number) (defScope S_is_number) .none kV_is_number dc_is_number pm_is_number an_is_number cd_is_number ct_is_number), sl_is_number⟩)
    (c_is_number : PySem.W.codeIn K cd_is_number "is_number" = true)
    (k_is_number : PySem.W.keepIn K (.ref f_is_number) = true)
    (a_end_of_run : PySem.W.nsIn K mainGlobals "_end_of_run" = some (some (.ref f_end_of_run)))
    (l_end_of_run : K.lookup f_end_of_run = some ⟨oc_end_of_run, od_end_of_run, .func (PySem.W.fnOf "_end_of_run" "_end_of_run" (defArgs S_end_of_run) (defBody S_end_of_run) (defScope S_end_of_run) .none kV_end_of_run dc_end_of_run pm_end_of_run an_end_of_run cd_end_of_run ct_end_of_run), sl_end_of_run⟩)
    (c_end_of_run : PySem.W.codeIn K cd_end_of_run "_end_of_run" = true)
    (k_end_of_run : PySem.W.keepIn K (.ref f_end_of_run) = true)
    (a_tokens_of : PySem.W.nsIn K mainGlobals "tokens_of" = some (some (.ref f_tokens_of)))
    (l_tokens_of : K.lookup f_tokens_of = some ⟨oc_tokens_of, od_tokens_of, .func (PySem.W.fnOf "tokens_of" "tokens_of" (defArgs S_tokens_of) (defBody S_tokens_of) (defScope S_tokens_of) .none kV_tokens_of dc_tokens_of pm_tokens_of an_tokens_of cd_tokens_of ct_tokens_of), sl_tokens_of⟩)
    (c_tokens_of : PySem.W.codeIn K cd_tokens_of "tokens_of" = true)
    (k_tokens_of : PySem.W.keepIn K (.ref f_tokens_of) = true)
    (aC_Reader : PySem.W.nsIn K mainGlobals "Reader" = some (some (.ref C_Reader)))
    (pg_Reader : PySem.W.plainGet K C_Reader Str.empty = true)
    (hd_Reader : PySem.W.hasDictIn K C_Reader = true)
    (po_Reader : PySem.W.plainOver K C_Reader = true)
    (sa_Reader : PySem.W.findIn K (.ref C_Reader) "__setattr__" = some (some (.builtin "object.__setattr__")))
    (mk_Reader : PySem.W.makesIn K C_Reader = true)
    (kc_Reader : PySem.W.keepIn K (.ref C_Reader) = true)
    (cc_Reader : PySem.W.findIn K (.ref C_Reader) "__class__" = some (some (.builtin "object.__class__")))
    (cm_Reader : PySem.W.mroIn K C_Reader (.type "object") = some true)
    (ic_Reader : PySem.W.isClsIn K C_Reader = true)
    (tc_Reader : PySem.W.typeIn K (.ref C_Reader) = some (.type "type"))
    (np_Reader_tokens : PySem.W.findIn K (.ref C_Reader) "_tokens" = some none)
    (np_Reader_at : PySem.W.findIn K (.ref C_Reader) "_at" = some none)
    (a_Reader___init__ : PySem.W.findIn K (.ref C_Reader) "__init__" = some (some (.ref f_Reader___init__)))
    (i_Reader___init__ : PySem.W.isFn K (.ref f_Reader___init__) = true)
    (l_Reader___init__ : K.lookup f_Reader___init__ = some ⟨oc_Reader___init__, od_Reader___init__, .func (PySem.W.fnOf "__init__" "Reader.__init__" (defArgs S_Reader___init__) (defBody S_Reader___init__) (defScope S_Reader___init__) .none kV_Reader___init__ dc_Reader___init__ pm_Reader___init__ an_Reader___init__ cd_Reader___init__ ct_Reader___init__), sl_Reader___init__⟩)
    (c_Reader___init__ : PySem.W.codeIn K cd_Reader___init__ "Reader.__init__" = true)
    (k_Reader___init__ : PySem.W.keepIn K (.ref f_Reader___init__) = true)
    (a_Reader_token : PySem.W.findIn K (.ref C_Reader) "token" = some (some (.ref f_Reader_token)))
    (i_Reader_token : PySem.W.isFn K (.ref f_Reader_token) = true)
    (l_Reader_token : K.lookup f_Reader_token = some ⟨oc_Reader_token, od_Reader_token, .func (PySem.W.fnOf "token" "Reader.token" (defArgs S_Reader_token) (defBody S_Reader_token) (defScope S_Reader_token) .none kV_Reader_token dc_Reader_token pm_Reader_token an_Reader_token cd_Reader_token ct_Reader_token), sl_Reader_token⟩)
    (c_Reader_token : PySem.W.codeIn K cd_Reader_token "Reader.token" = true)
    (k_Reader_token : PySem.W.keepIn K (.ref f_Reader_token) = true)
    (a_Reader_place : PySem.W.findIn K (.ref C_Reader) "place" = some (some (.ref f_Reader_place)))
    (i_Reader_place : PySem.W.isFn K (.ref f_Reader_place) = true)
    (l_Reader_place : K.lookup f_Reader_place = some ⟨oc_Reader_place, od_Reader_place, .func (PySem.W.fnOf "place" "Reader.place" (defArgs S_Reader_place) (defBody S_Reader_place) (defScope S_Reader_place) .none kV_Reader_place dc_Reader_place pm_Reader_place an_Reader_place cd_Reader_place ct_Reader_place), sl_Reader_place⟩)
    (c_Reader_place : PySem.W.codeIn K cd_Reader_place "Reader.place" = true)
    (k_Reader_place : PySem.W.keepIn K (.ref f_Reader_place) = true)
    (a_Reader_pass_any : PySem.W.findIn K (.ref C_Reader) "pass_any" = some (some (.ref f_Reader_pass_any)))
    (i_Reader_pass_any : PySem.W.isFn K (.ref f_Reader_pass_any) = true)
    (l_Reader_pass_any : K.lookup f_Reader_pass_any = some ⟨oc_Reader_pass_any, od_Reader_pass_any, .func (PySem.W.fnOf "pass_any" "Reader.pass_any" (defArgs S_Reader_pass_any) (defBody S_Reader_pass_any) (defScope S_Reader_pass_any) .none kV_Reader_pass_any dc_Reader_pass_any pm_Reader_pass_any an_Reader_pass_any cd_Reader_pass_any ct_Reader_pass_any), sl_Reader_pass_any⟩)
    (c_Reader_pass_any : PySem.W.codeIn K cd_Reader_pass_any "Reader.pass_any" = true)
    (k_Reader_pass_any : PySem.W.keepIn K (.ref f_Reader_pass_any) = true)
    (a_Reader_passes : PySem.W.findIn K (.ref C_Reader) "passes" = some (some (.ref f_Reader_passes)))
    (i_Reader_passes : PySem.W.isFn K (.ref f_Reader_passes) = true)
    (l_Reader_passes : K.lookup f_Reader_passes = some ⟨oc_Reader_passes, od_Reader_passes, .func (PySem.W.fnOf "passes" "Reader.passes" (defArgs S_Reader_passes) (defBody S_Reader_passes) (defScope S_Reader_passes) .none kV_Reader_passes dc_Reader_passes pm_Reader_passes an_Reader_passes cd_Reader_passes ct_Reader_passes), sl_Reader_passes⟩)
    (c_Reader_passes : PySem.W.codeIn K cd_Reader_passes "Reader.passes" = true)
    (k_Reader_passes : PySem.W.keepIn K (.ref f_Reader_passes) = true)
    (a_Reader_pass_only : PySem.W.findIn K (.ref C_Reader) "pass_only" = some (some (.ref f_Reader_pass_only)))
    (i_Reader_pass_only : PySem.W.isFn K (.ref f_Reader_pass_only) = true)
    (l_Reader_pass_only : K.lookup f_Reader_pass_only = some ⟨oc_Reader_pass_only, od_Reader_pass_only, .func (PySem.W.fnOf "pass_only" "Reader.pass_only" (defArgs S_Reader_pass_only) (defBody S_Reader_pass_only) (defScope S_Reader_pass_only) .none kV_Reader_pass_only dc_Reader_pass_only pm_Reader_pass_only an_Reader_pass_only cd_Reader_pass_only ct_Reader_pass_only), sl_Reader_pass_only⟩)
    (c_Reader_pass_only : PySem.W.codeIn K cd_Reader_pass_only "Reader.pass_only" = true)
    (k_Reader_pass_only : PySem.W.keepIn K (.ref f_Reader_pass_only) = true)
    (a_Reader_pass_one : PySem.W.findIn K (.ref C_Reader) "pass_one" = some (some (.ref f_Reader_pass_one)))
    (i_Reader_pass_one : PySem.W.isFn K (.ref f_Reader_pass_one) = true)
    (l_Reader_pass_one : K.lookup f_Reader_pass_one = some ⟨oc_Reader_pass_one, od_Reader_pass_one, .func (PySem.W.fnOf "pass_one" "Reader.pass_one" (defArgs S_Reader_pass_one) (defBody S_Reader_pass_one) (defScope S_Reader_pass_one) .none kV_Reader_pass_one dc_Reader_pass_one pm_Reader_pass_one an_Reader_pass_one cd_Reader_pass_one ct_Reader_pass_one), sl_Reader_pass_one⟩)
    (c_Reader_pass_one : PySem.W.codeIn K cd_Reader_pass_one "Reader.pass_one" = true)
    (k_Reader_pass_one : PySem.W.keepIn K (.ref f_Reader_pass_one) = true)
    (a_Reader_pass_number : PySem.W.findIn K (.ref C_Reader) "pass_number" = some (some (.ref f_Reader_pass_number)))
    (i_Reader_pass_number : PySem.W.isFn K (.ref f_Reader_pass_number) = true)
    (l_Reader_pass_number : K.lookup f_Reader_pass_number = some ⟨oc_Reader_pass_number, od_Reader_pass_number, .func (PySem.W.fnOf "pass_number" "Reader.pass_number" (defArgs S_Reader_pass_number) (defBody S_Reader_pass_number) (defScope S_Reader_pass_number) .none kV_Reader_pass_number dc_Reader_pass_number pm_Reader_pass_number an_Reader_pass_number cd_Reader_pass_number ct_Reader_pass_number), sl_Reader_pass_number⟩)
    (c_Reader_pass_number : PySem.W.codeIn K cd_Reader_pass_number "Reader.pass_number" = true)
    (k_Reader_pass_number : PySem.W.keepIn K (.ref f_Reader_pass_number) = true)
    (a_Reader_pass_end : PySem.W.findIn K (.ref C_Reader) "pass_end" = some (some (.ref f_Reader_pass_end)))
    (i_Reader_pass_end : PySem.W.isFn K (.ref f_Reader_pass_end) = true)
    (l_Reader_pass_end : K.lookup f_Reader_pass_end = some ⟨oc_Reader_pass_end, od_Reader_pass_end, .func (PySem.W.fnOf "pass_end" "Reader.pass_end" (defArgs S_Reader_pass_end) (defBody S_Reader_pass_end) (defScope S_Reader_pass_end) .none kV_Reader_pass_end dc_Reader_pass_end pm_Reader_pass_end an_Reader_pass_end cd_Reader_pass_end ct_Reader_pass_end), sl_Reader_pass_end⟩)
    (c_Reader_pass_end : PySem.W.codeIn K cd_Reader_pass_end "Reader.pass_end" = true)
    (k_Reader_pass_end : PySem.W.keepIn K (.ref f_Reader_pass_end) = true)
    (a_KEYWORDS : PySem.W.nsIn K mainGlobals "_KEYWORDS" = some (some (.ref t_KEYWORDS)))
    (l_KEYWORDS : K.lookup t_KEYWORDS = some ⟨.type "tuple", dd_KEYWORDS, .seq #[.str (Str.ofString "array") t_KEYWORDS0, .str (Str.ofString "for") t_KEYWORDS1, .str (Str.ofString "read") t_KEYWORDS2, .str (Str.ofString "write") t_KEYWORDS3, .str (Str.ofString "flush") t_KEYWORDS4, .str (Str.ofString "n") t_KEYWORDS5] n_KEYWORDS, ds_KEYWORDS⟩)
    (a_STATEMENTS : PySem.W.nsIn K mainGlobals "_STATEMENTS" = some (some (.ref t_STATEMENTS)))
    (l_STATEMENTS : K.lookup t_STATEMENTS = some ⟨.type "tuple", dd_STATEMENTS, .seq #[.str (Str.ofString "for") t_STATEMENTS0, .str (Str.ofString "read") t_STATEMENTS1, .str (Str.ofString "write") t_STATEMENTS2, .str (Str.ofString "flush") t_STATEMENTS3] n_STATEMENTS, ds_STATEMENTS⟩)
    (a_MOST_POWER : PySem.W.nsIn K mainGlobals "_MOST_POWER" = some (some (.int 3 t_MOST_POWER)))
    (a_MOST_LOOPS : PySem.W.nsIn K mainGlobals "_MOST_LOOPS" = some (some (.int 5 t_MOST_LOOPS)))
    (a_is_name : PySem.W.nsIn K mainGlobals "is_name" = some (some (.ref f_is_name)))
    (l_is_name : K.lookup f_is_name = some ⟨oc_is_name, od_is_name, .func (PySem.W.fnOf "is_name" "is_name" (defArgs S_is_name) (defBody S_is_name) (defScope S_is_name) .none kV_is_name dc_is_name pm_is_name an_is_name cd_is_name ct_is_name), sl_is_name⟩)
    (c_is_name : PySem.W.codeIn K cd_is_name "is_name" = true)
    (k_is_name : PySem.W.keepIn K (.ref f_is_name) = true)
    (a_parse : PySem.W.nsIn K mainGlobals "parse" = some (some (.ref f_parse)))
    (l_parse : K.lookup f_parse = some ⟨oc_parse, od_parse, .func (PySem.W.fnOf "parse" "parse" (defArgs S_parse) (defBody S_parse) (defScope S_parse) .none kV_parse dc_parse pm_parse an_parse cd_parse ct_parse), sl_parse⟩)
    (c_parse : PySem.W.codeIn K cd_parse "parse" = true)
    (k_parse : PySem.W.keepIn K (.ref f_parse) = true)
    (a_reader : PySem.W.nsIn K mainGlobals "_reader" = some (some (.ref f_reader)))
    (l_reader : K.lookup f_reader = some ⟨oc_reader, od_reader, .func (PySem.W.fnOf "_reader" "_reader" (defArgs S_reader) (defBody S_reader) (defScope S_reader) .none kV_reader dc_reader pm_reader an_reader cd_reader ct_reader), sl_reader⟩)
    (c_reader : PySem.W.codeIn K cd_reader "_reader" = true)
    (k_reader : PySem.W.keepIn K (.ref f_reader) = true)
    (a_name : PySem.W.nsIn K mainGlobals "_name" = some (some (.ref f_name)))
    (l_name : K.lookup f_name = some ⟨oc_name, od_name, .func (PySem.W.fnOf "_name" "_name" (defArgs S_name) (defBody S_name) (defScope S_name) .none kV_name dc_name pm_name an_name cd_name ct_name), sl_name⟩)
    (c_name : PySem.W.codeIn K cd_name "_name" = true)
    (k_name : PySem.W.keepIn K (.ref f_name) = true)
    (a_block : PySem.W.nsIn K mainGlobals "_block" = some (some (.ref f_block)))
    (l_block : K.lookup f_block = some ⟨oc_block, od_block, .func (PySem.W.fnOf "_block" "_block" (defArgs S_block) (defBody S_block) (defScope S_block) .none kV_block dc_block pm_block an_block cd_block ct_block), sl_block⟩)
    (c_block : PySem.W.codeIn K cd_block "_block" = true)
    (k_block : PySem.W.keepIn K (.ref f_block) = true)
    (a_statement : PySem.W.nsIn K mainGlobals "_statement" = some (some (.ref f_statement)))
    (l_statement : K.lookup f_statement = some ⟨oc_statement, od_statement, .func (PySem.W.fnOf "_statement" "_statement" (defArgs S_statement) (defBody S_statement) (defScope S_statement) .none kV_statement dc_statement pm_statement an_statement cd_statement ct_statement), sl_statement⟩)
    (c_statement : PySem.W.codeIn K cd_statement "_statement" = true)
    (k_statement : PySem.W.keepIn K (.ref f_statement) = true)
    (a_loop : PySem.W.nsIn K mainGlobals "_loop" = some (some (.ref f_loop)))
    (l_loop : K.lookup f_loop = some ⟨oc_loop, od_loop, .func (PySem.W.fnOf "_loop" "_loop" (defArgs S_loop) (defBody S_loop) (defScope S_loop) .none kV_loop dc_loop pm_loop an_loop cd_loop ct_loop), sl_loop⟩)
    (c_loop : PySem.W.codeIn K cd_loop "_loop" = true)
    (k_loop : PySem.W.keepIn K (.ref f_loop) = true)
    (a_size : PySem.W.nsIn K mainGlobals "_size" = some (some (.ref f_size)))
    (l_size : K.lookup f_size = some ⟨oc_size, od_size, .func (PySem.W.fnOf "_size" "_size" (defArgs S_size) (defBody S_size) (defScope S_size) .none kV_size dc_size pm_size an_size cd_size ct_size), sl_size⟩)
    (c_size : PySem.W.codeIn K cd_size "_size" = true)
    (k_size : PySem.W.keepIn K (.ref f_size) = true)
    (a_index : PySem.W.nsIn K mainGlobals "_index" = some (some (.ref f_index)))
    (l_index : K.lookup f_index = some ⟨oc_index, od_index, .func (PySem.W.fnOf "_index" "_index" (defArgs S_index) (defBody S_index) (defScope S_index) .none kV_index dc_index pm_index an_index cd_index ct_index), sl_index⟩)
    (c_index : PySem.W.codeIn K cd_index "_index" = true)
    (k_index : PySem.W.keepIn K (.ref f_index) = true)
    (a_sums : PySem.W.nsIn K mainGlobals "_sums" = some (some (.ref f_sums)))
    (l_sums : K.lookup f_sums = some ⟨oc_sums, od_sums, .func (PySem.W.fnOf "_sums" "_sums" (defArgs S_sums) (defBody S_sums) (defScope S_sums) .none kV_sums dc_sums pm_sums an_sums cd_sums ct_sums), sl_sums⟩)
    (c_sums : PySem.W.codeIn K cd_sums "_sums" = true)
    (k_sums : PySem.W.keepIn K (.ref f_sums) = true)
    (a_part : PySem.W.nsIn K mainGlobals "_part" = some (some (.ref f_part)))
    (l_part : K.lookup f_part = some ⟨oc_part, od_part, .func (PySem.W.fnOf "_part" "_part" (defArgs S_part) (defBody S_part) (defScope S_part) .none kV_part dc_part pm_part an_part cd_part ct_part), sl_part⟩)
    (c_part : PySem.W.codeIn K cd_part "_part" = true)
    (k_part : PySem.W.keepIn K (.ref f_part) = true)
    (a_law_pool : PySem.W.nsIn K mainGlobals "_law_pool" = some (some (.ref f_law_pool)))
    (l_law_pool : K.lookup f_law_pool = some ⟨oc_law_pool, od_law_pool, .func (PySem.W.fnOf "_law_pool" "_law_pool" (defArgs S_law_pool) (defBody S_law_pool) (defScope S_law_pool) .none kV_law_pool dc_law_pool pm_law_pool an_law_pool cd_law_pool ct_law_pool), sl_law_pool⟩)
    (c_law_pool : PySem.W.codeIn K cd_law_pool "_law_pool" = true)
    (k_law_pool : PySem.W.keepIn K (.ref f_law_pool) = true)
    (a_law_take : PySem.W.nsIn K mainGlobals "_law_take" = some (some (.ref f_law_take)))
    (l_law_take : K.lookup f_law_take = some ⟨oc_law_take, od_law_take, .func (PySem.W.fnOf "_law_take" "_law_take" (defArgs S_law_take) (defBody S_law_take) (defScope S_law_take) .none kV_law_take dc_law_take pm_law_take an_law_take cd_law_take ct_law_take), sl_law_take⟩)
    (c_law_take : PySem.W.codeIn K cd_law_take "_law_take" = true)
    (k_law_take : PySem.W.keepIn K (.ref f_law_take) = true)
    (a_law_due : PySem.W.nsIn K mainGlobals "_law_due" = some (some (.ref f_law_due)))
    (l_law_due : K.lookup f_law_due = some ⟨oc_law_due, od_law_due, .func (PySem.W.fnOf "_law_due" "_law_due" (defArgs S_law_due) (defBody S_law_due) (defScope S_law_due) .none kV_law_due dc_law_due pm_law_due an_law_due cd_law_due ct_law_due), sl_law_due⟩)
    (c_law_due : PySem.W.codeIn K cd_law_due "_law_due" = true)
    (k_law_due : PySem.W.keepIn K (.ref f_law_due) = true)
    (a_law_word : PySem.W.nsIn K mainGlobals "_law_word" = some (some (.ref f_law_word)))
    (l_law_word : K.lookup f_law_word = some ⟨oc_law_word, od_law_word, .func (PySem.W.fnOf "_law_word" "_law_word" (defArgs S_law_word) (defBody S_law_word) (defScope S_law_word) .none kV_law_word dc_law_word pm_law_word an_law_word cd_law_word ct_law_word), sl_law_word⟩)
    (c_law_word : PySem.W.codeIn K cd_law_word "_law_word" = true)
    (k_law_word : PySem.W.keepIn K (.ref f_law_word) = true)
    (a_law_bent : PySem.W.nsIn K mainGlobals "_law_bent" = some (some (.ref f_law_bent)))
    (l_law_bent : K.lookup f_law_bent = some ⟨oc_law_bent, od_law_bent, .func (PySem.W.fnOf "_law_bent" "_law_bent" (defArgs S_law_bent) (defBody S_law_bent) (defScope S_law_bent) .none kV_law_bent dc_law_bent pm_law_bent an_law_bent cd_law_bent ct_law_bent), sl_law_bent⟩)
    (c_law_bent : PySem.W.codeIn K cd_law_bent "_law_bent" = true)
    (k_law_bent : PySem.W.keepIn K (.ref f_law_bent) = true)
    (a_law_is_read : PySem.W.nsIn K mainGlobals "_law_is_read" = some (some (.ref f_law_is_read)))
    (l_law_is_read : K.lookup f_law_is_read = some ⟨oc_law_is_read, od_law_is_read, .func (PySem.W.fnOf "_law_is_read" "_law_is_read" (defArgs S_law_is_read) (defBody S_law_is_read) (defScope S_law_is_read) .none kV_law_is_read dc_law_is_read pm_law_is_read an_law_is_read cd_law_is_read ct_law_is_read), sl_law_is_read⟩)
    (c_law_is_read : PySem.W.codeIn K cd_law_is_read "_law_is_read" = true)
    (k_law_is_read : PySem.W.keepIn K (.ref f_law_is_read) = true)
    (a_law : PySem.W.nsIn K mainGlobals "law" = some (some (.ref f_law)))
    (l_law : K.lookup f_law = some ⟨oc_law, od_law, .func (PySem.W.fnOf "law" "law" (defArgs S_law) (defBody S_law) (defScope S_law) .none kV_law dc_law pm_law an_law cd_law ct_law), sl_law⟩)
    (c_law : PySem.W.codeIn K cd_law "law" = true)
    (k_law : PySem.W.keepIn K (.ref f_law) = true)
    (z_len : PySem.W.nsIn K mainGlobals "len" = some none)
    (z_tuple : PySem.W.nsIn K mainGlobals "tuple" = some none)
    (z_max : PySem.W.nsIn K mainGlobals "max" = some none)
    (z_enumerate : PySem.W.nsIn K mainGlobals "enumerate" = some none)
    (z_reversed : PySem.W.nsIn K mainGlobals "reversed" = some none)
    (z_isinstance : PySem.W.nsIn K mainGlobals "isinstance" = some none)
    (z_int : PySem.W.nsIn K mainGlobals "int" = some none)
    (z_bool : PySem.W.nsIn K mainGlobals "bool" = some none)
    (z_abs : PySem.W.nsIn K mainGlobals "abs" = some none)
    (z_range : PySem.W.nsIn K mainGlobals "range" = some none)
    (z_list : PySem.W.nsIn K mainGlobals "list" = some none)
    (z_min : PySem.W.nsIn K mainGlobals "min" = some none)
    (z_all : PySem.W.nsIn K mainGlobals "all" = some none)
    (z_str : PySem.W.nsIn K mainGlobals "str" = some none)
    (z_sorted : PySem.W.nsIn K mainGlobals "sorted" = some none)
    (z_repr : PySem.W.nsIn K mainGlobals "repr" = some none)
    (anO : PySem.W.specialIn K (.builtin "object.__class__") "__get__" = some (some (.builtin "getset_descriptor.__get__")))
    (tkO : PySem.W.takesIn K (.builtin "object.__class__") = some true)
    (si : PySem.W.subIn K (.type "int") (.ref C_Size) = some false)
    (sf : PySem.W.selfFirst K C_Size = true)
    (ra : PySem.W.findIn K (.ref C_Size) "__radd__" = some none)
    (ia : PySem.W.findIn K (.type "int") "__add__" = some ia1)
    (ib : PySem.W.findIn K (.type "int") "__radd__" = some ia2)
    (nf : C_InvalidSyntax ≠ C_FarError) :
    ∃ fd : FuncData, (∀ (s : Shared) (v : Value), BindsTo s fd ⟨[v], []⟩ [("_law_script", v)]) ∧ ∀ base : Heap, K.In base → base.Ns mainGlobals mg → FnOk l.prog w K mg base CX0 28 fa fd ["_law_script"] (spLaw K) := by
  have e := hfa.symm.trans (PySem.W.mg_of X G a_law)
  cases e
  have F_InvalidText___init__ := fun_mk (x := "__init__") (qual := "InvalidText.__init__") (st := S_InvalidText___init__) l_InvalidText___init__ c_InvalidText___init__ k_InvalidText___init__
  have b_InvalidText___init__ := F_InvalidText___init__.binds (ps := ["self", "value"]) fun _ _ _ _ _ _ us hl => match us, hl with | [_, _], _ => rfl
  have F_InvalidSyntax___init__ := fun_mk (x := "__init__") (qual := "InvalidSyntax.__init__") (st := S_InvalidSyntax___init__) l_InvalidSyntax___init__ c_InvalidSyntax___init__ k_InvalidSyntax___init__
  have b_InvalidSyntax___init__ := F_InvalidSyntax___init__.binds (ps := ["self", "position"]) fun _ _ _ _ _ _ us hl => match us, hl with | [_, _], _ => rfl
  have F_TooLarge___init__ := fun_mk (x := "__init__") (qual := "TooLarge.__init__") (st := S_TooLarge___init__) l_TooLarge___init__ c_TooLarge___init__ k_TooLarge___init__
  have b_TooLarge___init__ := F_TooLarge___init__.binds (ps := ["self", "word"]) fun _ _ _ _ _ _ us hl => match us, hl with | [_, _], _ => rfl
  have F_is_integer := fun_mk (x := "is_integer") (qual := "is_integer") (st := S_is_integer) l_is_integer c_is_integer k_is_integer
  have b_is_integer := F_is_integer.binds (ps := ["value"]) fun _ _ _ _ _ _ us hl => match us, hl with | [_], _ => rfl
  have g_is_integer := PySem.W.mg_of X G a_is_integer
  have F_trimmed := fun_mk (x := "_trimmed") (qual := "_trimmed") (st := S_trimmed) l_trimmed c_trimmed k_trimmed
  have b_trimmed := F_trimmed.binds (ps := ["parts"]) fun _ _ _ _ _ _ us hl => match us, hl with | [_], _ => rfl
  have g_trimmed := PySem.W.mg_of X G a_trimmed
  have F_sum := fun_mk (x := "_sum") (qual := "_sum") (st := S_sum) l_sum c_sum k_sum
  have b_sum := F_sum.binds (ps := ["one", "other"]) fun _ _ _ _ _ _ us hl => match us, hl with | [_, _], _ => rfl
  have g_sum := PySem.W.mg_of X G a_sum
  have F_product := fun_mk (x := "_product") (qual := "_product") (st := S_product) l_product c_product k_product
  have b_product := F_product.binds (ps := ["one", "other"]) fun _ _ _ _ _ _ us hl => match us, hl with | [_, _], _ => rfl
  have g_product := PySem.W.mg_of X G a_product
  have F_negative := fun_mk (x := "_negative") (qual := "_negative") (st := S_negative) l_negative c_negative k_negative
  have b_negative := F_negative.binds (ps := ["parts"]) fun _ _ _ _ _ _ us hl => match us, hl with | [_], _ => rfl
  have g_negative := PySem.W.mg_of X G a_negative
  have F_is_operand := fun_mk (x := "_is_operand") (qual := "_is_operand") (st := S_is_operand) l_is_operand c_is_operand k_is_operand
  have b_is_operand := F_is_operand.binds (ps := ["value"]) fun _ _ _ _ _ _ us hl => match us, hl with | [_], _ => rfl
  have g_is_operand := PySem.W.mg_of X G a_is_operand
  have F_parts_of := fun_mk (x := "_parts_of") (qual := "_parts_of") (st := S_parts_of) l_parts_of c_parts_of k_parts_of
  have b_parts_of := F_parts_of.binds (ps := ["operand"]) fun _ _ _ _ _ _ us hl => match us, hl with | [_], _ => rfl
  have g_parts_of := PySem.W.mg_of X G a_parts_of
  have kit_Size : InsKit K C_Size := ⟨⟨pg_Size, hd_Size, po_Size, sa_Size⟩, cc_Size, cgO, ctO, cm_Size⟩
  have mC_Size := PySem.W.mg_of X G aC_Size
  have F_Size___init__ : FunD K "__init__" "Size.__init__" (defArgs S_Size___init__) (defBody S_Size___init__) (defScope S_Size___init__) [.ref t0_Size___init__] [] f_Size___init__ (PySem.W.fnOf "__init__" "Size.__init__" (defArgs S_Size___init__) (defBody S_Size___init__) (defScope S_Size___init__) (.ref T1_Size___init__) kV_Size___init__ dc_Size___init__ pm_Size___init__ an_Size___init__ cd_Size___init__ ct_Size___init__) :=
    ⟨⟨_, _, _, _, _, _, _, _, _, _, rfl, l_Size___init__, c_Size___init__, .inr ⟨by simp, T1_Size___init__, _, [.ref t0_Size___init__], _, rfl, d1_Size___init__, rfl, .cons rfl .nil⟩, .inl rfl⟩, k_Size___init__⟩
  obtain ⟨e1_Size___init__, r1_Size___init__, bM1_Size___init__⟩ := F_Size___init__.binds1 (ps := ["self", "parts"]) 1 0 (by simp) rfl (fun _ _ _ _ _ _ _ us its hl hi => match us, its, hl, hi with | [_], [_], _, _ => ⟨_, rfl, rfl⟩)
  obtain ⟨e2_Size___init__, r2_Size___init__, bM2_Size___init__⟩ := F_Size___init__.binds1 (ps := ["self", "parts"]) 2 1 (by simp) rfl (fun _ _ _ _ _ _ _ us its hl hi => match us, its, hl, hi with | [_, _], [_], _, _ => ⟨_, rfl, rfl⟩)
  cases r2_Size___init__
  have M_Size___init__ : Meth K C_Size "__init__" f_Size___init__ := ⟨a_Size___init__, i_Size___init__, k_Size___init__⟩
  have MK_Size : Mk K C_Size f_Size___init__ := ⟨mk_Size, a_Size___init__, i_Size___init__, kc_Size⟩
  have F_Size_coefficients := fun_mk (x := "coefficients") (qual := "Size.coefficients") (st := S_Size_coefficients) l_Size_coefficients c_Size_coefficients k_Size_coefficients
  have b_Size_coefficients := F_Size_coefficients.binds (ps := ["self"]) fun _ _ _ _ _ _ us hl => match us, hl with | [_], _ => rfl
  have P_Size_coefficients : PropOf K C_Size "coefficients" p_Size_coefficients f_Size_coefficients := ⟨pa_Size_coefficients, pg_Size_coefficients, pt_Size_coefficients, ⟨_, pr_Size_coefficients⟩⟩
  have F_Size_degree := fun_mk (x := "degree") (qual := "Size.degree") (st := S_Size_degree) l_Size_degree c_Size_degree k_Size_degree
  have b_Size_degree := F_Size_degree.binds (ps := ["self"]) fun _ _ _ _ _ _ us hl => match us, hl with | [_], _ => rfl
  have P_Size_degree : PropOf K C_Size "degree" p_Size_degree f_Size_degree := ⟨pa_Size_degree, pg_Size_degree, pt_Size_degree, ⟨_, pr_Size_degree⟩⟩
  have F_Size___add__ := fun_mk (x := "__add__") (qual := "Size.__add__") (st := S_Size___add__) l_Size___add__ c_Size___add__ k_Size___add__
  have b_Size___add__ := F_Size___add__.binds (ps := ["self", "other"]) fun _ _ _ _ _ _ us hl => match us, hl with | [_, _], _ => rfl
  have M_Size___add__ : Meth K C_Size "__add__" f_Size___add__ := ⟨a_Size___add__, i_Size___add__, k_Size___add__⟩
  have F_Size___sub__ := fun_mk (x := "__sub__") (qual := "Size.__sub__") (st := S_Size___sub__) l_Size___sub__ c_Size___sub__ k_Size___sub__
  have b_Size___sub__ := F_Size___sub__.binds (ps := ["self", "other"]) fun _ _ _ _ _ _ us hl => match us, hl with | [_, _], _ => rfl
  have M_Size___sub__ : Meth K C_Size "__sub__" f_Size___sub__ := ⟨a_Size___sub__, i_Size___sub__, k_Size___sub__⟩
  have F_Size___mul__ := fun_mk (x := "__mul__") (qual := "Size.__mul__") (st := S_Size___mul__) l_Size___mul__ c_Size___mul__ k_Size___mul__
  have b_Size___mul__ := F_Size___mul__.binds (ps := ["self", "other"]) fun _ _ _ _ _ _ us hl => match us, hl with | [_, _], _ => rfl
  have M_Size___mul__ : Meth K C_Size "__mul__" f_Size___mul__ := ⟨a_Size___mul__, i_Size___mul__, k_Size___mul__⟩
  have F_Size___neg__ := fun_mk (x := "__neg__") (qual := "Size.__neg__") (st := S_Size___neg__) l_Size___neg__ c_Size___neg__ k_Size___neg__
  have b_Size___neg__ := F_Size___neg__.binds (ps := ["self"]) fun _ _ _ _ _ _ us hl => match us, hl with | [_], _ => rfl
  have M_Size___neg__ : Meth K C_Size "__neg__" f_Size___neg__ := ⟨a_Size___neg__, i_Size___neg__, k_Size___neg__⟩
  have F_Size___call__ := fun_mk (x := "__call__") (qual := "Size.__call__") (st := S_Size___call__) l_Size___call__ c_Size___call__ k_Size___call__
  have b_Size___call__ := F_Size___call__.binds (ps := ["self", "n"]) fun _ _ _ _ _ _ us hl => match us, hl with | [_, _], _ => rfl
  have M_Size___call__ : Meth K C_Size "__call__" f_Size___call__ := ⟨a_Size___call__, i_Size___call__, k_Size___call__⟩
  have F_Size___eq__ := fun_mk (x := "__eq__") (qual := "Size.__eq__") (st := S_Size___eq__) l_Size___eq__ c_Size___eq__ k_Size___eq__
  have b_Size___eq__ := F_Size___eq__.binds (ps := ["self", "other"]) fun _ _ _ _ _ _ us hl => match us, hl with | [_, _], _ => rfl
  have M_Size___eq__ : Meth K C_Size "__eq__" f_Size___eq__ := ⟨a_Size___eq__, i_Size___eq__, k_Size___eq__⟩
  have g_LETTERS := PySem.W.mg_of X G a_LETTERS
  have g_DIGITS := PySem.W.mg_of X G a_DIGITS
  have g_GAPS := PySem.W.mg_of X G a_GAPS
  have g_MOST_DIGITS := PySem.W.mg_of X G a_MOST_DIGITS
  have F_is_word := fun_mk (x := "is_word") (qual := "is_word") (st := S_is_word) l_is_word c_is_word k_is_word
  have b_is_word := F_is_word.binds (ps := ["text"]) fun _ _ _ _ _ _ us hl => match us, hl with | [_], _ => rfl
  have g_is_word := PySem.W.mg_of X G a_is_word
  have F_is_number := fun_mk (x := "is_number") (qual := "is_number") (st := S_is_number) l_is_number c_is_number k_is_number
  have b_is_number := F_is_number.binds (ps := ["text"]) fun _ _ _ _ _ _ us hl => match us, hl with | [_], _ => rfl
  have g_is_number := PySem.W.mg_of X G a_is_number
  have F_end_of_run := fun_mk (x := "_end_of_run") (qual := "_end_of_run") (st := S_end_of_run) l_end_of_run c_end_of_run k_end_of_run
  have b_end_of_run := F_end_of_run.binds (ps := ["text", "begin"]) fun _ _ _ _ _ _ us hl => match us, hl with | [_, _], _ => rfl
  have g_end_of_run := PySem.W.mg_of X G a_end_of_run
  have F_tokens_of := fun_mk (x := "tokens_of") (qual := "tokens_of") (st := S_tokens_of) l_tokens_of c_tokens_of k_tokens_of
  have b_tokens_of := F_tokens_of.binds (ps := ["text"]) fun _ _ _ _ _ _ us hl => match us, hl with | [_], _ => rfl
  have g_tokens_of := PySem.W.mg_of X G a_tokens_of
  have kit_Reader : InsKit K C_Reader := ⟨⟨pg_Reader, hd_Reader, po_Reader, sa_Reader⟩, cc_Reader, cgO, ctO, cm_Reader⟩
  have mC_Reader := PySem.W.mg_of X G aC_Reader
  have F_Reader___init__ := fun_mk (x := "__init__") (qual := "Reader.__init__") (st := S_Reader___init__) l_Reader___init__ c_Reader___init__ k_Reader___init__
  have b_Reader___init__ := F_Reader___init__.binds (ps := ["self", "text"]) fun _ _ _ _ _ _ us hl => match us, hl with | [_, _], _ => rfl
  have M_Reader___init__ : Meth K C_Reader "__init__" f_Reader___init__ := ⟨a_Reader___init__, i_Reader___init__, k_Reader___init__⟩
  have MK_Reader : Mk K C_Reader f_Reader___init__ := ⟨mk_Reader, a_Reader___init__, i_Reader___init__, kc_Reader⟩
  have F_Reader_token := fun_mk (x := "token") (qual := "Reader.token") (st := S_Reader_token) l_Reader_token c_Reader_token k_Reader_token
  have b_Reader_token := F_Reader_token.binds (ps := ["self"]) fun _ _ _ _ _ _ us hl => match us, hl with | [_], _ => rfl
  have M_Reader_token : Meth K C_Reader "token" f_Reader_token := ⟨a_Reader_token, i_Reader_token, k_Reader_token⟩
  have F_Reader_place := fun_mk (x := "place") (qual := "Reader.place") (st := S_Reader_place) l_Reader_place c_Reader_place k_Reader_place
  have b_Reader_place := F_Reader_place.binds (ps := ["self"]) fun _ _ _ _ _ _ us hl => match us, hl with | [_], _ => rfl
  have M_Reader_place : Meth K C_Reader "place" f_Reader_place := ⟨a_Reader_place, i_Reader_place, k_Reader_place⟩
  have F_Reader_pass_any := fun_mk (x := "pass_any") (qual := "Reader.pass_any") (st := S_Reader_pass_any) l_Reader_pass_any c_Reader_pass_any k_Reader_pass_any
  have b_Reader_pass_any := F_Reader_pass_any.binds (ps := ["self"]) fun _ _ _ _ _ _ us hl => match us, hl with | [_], _ => rfl
  have M_Reader_pass_any : Meth K C_Reader "pass_any" f_Reader_pass_any := ⟨a_Reader_pass_any, i_Reader_pass_any, k_Reader_pass_any⟩
  have F_Reader_passes := fun_mk (x := "passes") (qual := "Reader.passes") (st := S_Reader_passes) l_Reader_passes c_Reader_passes k_Reader_passes
  have b_Reader_passes := F_Reader_passes.binds (ps := ["self", "token"]) fun _ _ _ _ _ _ us hl => match us, hl with | [_, _], _ => rfl
  have M_Reader_passes : Meth K C_Reader "passes" f_Reader_passes := ⟨a_Reader_passes, i_Reader_passes, k_Reader_passes⟩
  have F_Reader_pass_only := fun_mk (x := "pass_only") (qual := "Reader.pass_only") (st := S_Reader_pass_only) l_Reader_pass_only c_Reader_pass_only k_Reader_pass_only
  have b_Reader_pass_only := F_Reader_pass_only.binds (ps := ["self", "token"]) fun _ _ _ _ _ _ us hl => match us, hl with | [_, _], _ => rfl
  have M_Reader_pass_only : Meth K C_Reader "pass_only" f_Reader_pass_only := ⟨a_Reader_pass_only, i_Reader_pass_only, k_Reader_pass_only⟩
  have F_Reader_pass_one := fun_mk (x := "pass_one") (qual := "Reader.pass_one") (st := S_Reader_pass_one) l_Reader_pass_one c_Reader_pass_one k_Reader_pass_one
  have b_Reader_pass_one := F_Reader_pass_one.binds (ps := ["self", "tokens"]) fun _ _ _ _ _ _ us hl => match us, hl with | [_, _], _ => rfl
  have M_Reader_pass_one : Meth K C_Reader "pass_one" f_Reader_pass_one := ⟨a_Reader_pass_one, i_Reader_pass_one, k_Reader_pass_one⟩
  have F_Reader_pass_number := fun_mk (x := "pass_number") (qual := "Reader.pass_number") (st := S_Reader_pass_number) l_Reader_pass_number c_Reader_pass_number k_Reader_pass_number
  have b_Reader_pass_number := F_Reader_pass_number.binds (ps := ["self"]) fun _ _ _ _ _ _ us hl => match us, hl with | [_], _ => rfl
  have M_Reader_pass_number : Meth K C_Reader "pass_number" f_Reader_pass_number := ⟨a_Reader_pass_number, i_Reader_pass_number, k_Reader_pass_number⟩
  have F_Reader_pass_end := fun_mk (x := "pass_end") (qual := "Reader.pass_end") (st := S_Reader_pass_end) l_Reader_pass_end c_Reader_pass_end k_Reader_pass_end
  have b_Reader_pass_end := F_Reader_pass_end.binds (ps := ["self"]) fun _ _ _ _ _ _ us hl => match us, hl with | [_], _ => rfl
  have M_Reader_pass_end : Meth K C_Reader "pass_end" f_Reader_pass_end := ⟨a_Reader_pass_end, i_Reader_pass_end, k_Reader_pass_end⟩
  have g_KEYWORDS := PySem.W.mg_of X G a_KEYWORDS
  have q_KEYWORDS : ∀ H, SqT K H t_KEYWORDS ((["array", "for", "read", "write", "flush", "n"] : List Str).map V.str) := fun H => .inr ⟨_, _, _, l_KEYWORDS, rfl, rfl, (by show 6 ≤ sizeLine; decide), (.cons ⟨_, rfl⟩ (.cons ⟨_, rfl⟩ (.cons ⟨_, rfl⟩ (.cons ⟨_, rfl⟩ (.cons ⟨_, rfl⟩ (.cons ⟨_, rfl⟩ .nil))))))⟩
  have g_STATEMENTS := PySem.W.mg_of X G a_STATEMENTS
  have q_STATEMENTS : ∀ H, SqT K H t_STATEMENTS ((["for", "read", "write", "flush"] : List Str).map V.str) := fun H => .inr ⟨_, _, _, l_STATEMENTS, rfl, rfl, (by show 4 ≤ sizeLine; decide), (.cons ⟨_, rfl⟩ (.cons ⟨_, rfl⟩ (.cons ⟨_, rfl⟩ (.cons ⟨_, rfl⟩ .nil))))⟩
  have g_MOST_POWER := PySem.W.mg_of X G a_MOST_POWER
  have g_MOST_LOOPS := PySem.W.mg_of X G a_MOST_LOOPS
  have F_is_name := fun_mk (x := "is_name") (qual := "is_name") (st := S_is_name) l_is_name c_is_name k_is_name
  have b_is_name := F_is_name.binds (ps := ["value"]) fun _ _ _ _ _ _ us hl => match us, hl with | [_], _ => rfl
  have g_is_name := PySem.W.mg_of X G a_is_name
  have F_parse := fun_mk (x := "parse") (qual := "parse") (st := S_parse) l_parse c_parse k_parse
  have b_parse := F_parse.binds (ps := ["text"]) fun _ _ _ _ _ _ us hl => match us, hl with | [_], _ => rfl
  have g_parse := PySem.W.mg_of X G a_parse
  have F_reader := fun_mk (x := "_reader") (qual := "_reader") (st := S_reader) l_reader c_reader k_reader
  have b_reader := F_reader.binds (ps := ["text"]) fun _ _ _ _ _ _ us hl => match us, hl with | [_], _ => rfl
  have g_reader := PySem.W.mg_of X G a_reader
  have F_name := fun_mk (x := "_name") (qual := "_name") (st := S_name) l_name c_name k_name
  have b_name := F_name.binds (ps := ["reader"]) fun _ _ _ _ _ _ us hl => match us, hl with | [_], _ => rfl
  have g_name := PySem.W.mg_of X G a_name
  have F_block := fun_mk (x := "_block") (qual := "_block") (st := S_block) l_block c_block k_block
  have b_block := F_block.binds (ps := ["reader", "loops"]) fun _ _ _ _ _ _ us hl => match us, hl with | [_, _], _ => rfl
  have g_block := PySem.W.mg_of X G a_block
  have F_statement := fun_mk (x := "_statement") (qual := "_statement") (st := S_statement) l_statement c_statement k_statement
  have b_statement := F_statement.binds (ps := ["reader", "loops"]) fun _ _ _ _ _ _ us hl => match us, hl with | [_, _], _ => rfl
  have g_statement := PySem.W.mg_of X G a_statement
  have F_loop := fun_mk (x := "_loop") (qual := "_loop") (st := S_loop) l_loop c_loop k_loop
  have b_loop := F_loop.binds (ps := ["reader", "loops"]) fun _ _ _ _ _ _ us hl => match us, hl with | [_, _], _ => rfl
  have g_loop := PySem.W.mg_of X G a_loop
  have F_size := fun_mk (x := "_size") (qual := "_size") (st := S_size) l_size c_size k_size
  have b_size := F_size.binds (ps := ["reader"]) fun _ _ _ _ _ _ us hl => match us, hl with | [_], _ => rfl
  have g_size := PySem.W.mg_of X G a_size
  have F_index := fun_mk (x := "_index") (qual := "_index") (st := S_index) l_index c_index k_index
  have b_index := F_index.binds (ps := ["reader"]) fun _ _ _ _ _ _ us hl => match us, hl with | [_], _ => rfl
  have g_index := PySem.W.mg_of X G a_index
  have F_sums := fun_mk (x := "_sums") (qual := "_sums") (st := S_sums) l_sums c_sums k_sums
  have b_sums := F_sums.binds (ps := ["reader", "in_index"]) fun _ _ _ _ _ _ us hl => match us, hl with | [_, _], _ => rfl
  have g_sums := PySem.W.mg_of X G a_sums
  have F_part := fun_mk (x := "_part") (qual := "_part") (st := S_part) l_part c_part k_part
  have b_part := F_part.binds (ps := ["reader", "in_index"]) fun _ _ _ _ _ _ us hl => match us, hl with | [_, _], _ => rfl
  have g_part := PySem.W.mg_of X G a_part
  have F_law_pool := fun_mk (x := "_law_pool") (qual := "_law_pool") (st := S_law_pool) l_law_pool c_law_pool k_law_pool
  have b_law_pool := F_law_pool.binds (ps := ["_law_script", "_law_k"]) fun _ _ _ _ _ _ us hl => match us, hl with | [_, _], _ => rfl
  have g_law_pool := PySem.W.mg_of X G a_law_pool
  have F_law_take := fun_mk (x := "_law_take") (qual := "_law_take") (st := S_law_take) l_law_take c_law_take k_law_take
  have b_law_take := F_law_take.binds (ps := ["_law_pool_here", "_law_wide"]) fun _ _ _ _ _ _ us hl => match us, hl with | [_, _], _ => rfl
  have g_law_take := PySem.W.mg_of X G a_law_take
  have F_law_due := fun_mk (x := "_law_due") (qual := "_law_due") (st := S_law_due) l_law_due c_law_due k_law_due
  have b_law_due := F_law_due.binds (ps := ["_law_word_here"]) fun _ _ _ _ _ _ us hl => match us, hl with | [_], _ => rfl
  have g_law_due := PySem.W.mg_of X G a_law_due
  have F_law_word := fun_mk (x := "_law_word") (qual := "_law_word") (st := S_law_word) l_law_word c_law_word k_law_word
  have b_law_word := F_law_word.binds (ps := ["_law_pool_here"]) fun _ _ _ _ _ _ us hl => match us, hl with | [_], _ => rfl
  have g_law_word := PySem.W.mg_of X G a_law_word
  have F_law_bent := fun_mk (x := "_law_bent") (qual := "_law_bent") (st := S_law_bent) l_law_bent c_law_bent k_law_bent
  have b_law_bent := F_law_bent.binds (ps := ["_law_pool_here", "_law_word_here"]) fun _ _ _ _ _ _ us hl => match us, hl with | [_, _], _ => rfl
  have g_law_bent := PySem.W.mg_of X G a_law_bent
  have F_law_is_read := fun_mk (x := "_law_is_read") (qual := "_law_is_read") (st := S_law_is_read) l_law_is_read c_law_is_read k_law_is_read
  have b_law_is_read := F_law_is_read.binds (ps := ["_law_word_here"]) fun _ _ _ _ _ _ us hl => match us, hl with | [_], _ => rfl
  have g_law_is_read := PySem.W.mg_of X G a_law_is_read
  have F_law := fun_mk (x := "law") (qual := "law") (st := S_law) l_law c_law k_law
  have b_law := F_law.binds (ps := ["_law_script"]) fun _ _ _ _ _ _ us hl => match us, hl with | [_], _ => rfl
  have g_law := PySem.W.mg_of X G a_law
  have X_InvalidText : ErX K mg "InvalidText" C_InvalidText C_FarError "value" := ⟨⟨_, _, _, _, _, _, _, _, _, _, _, _, _, _, l_InvalidText⟩, sa_InvalidText, kC_InvalidText, ga_InvalidText, gg_InvalidText, ex_InvalidText, ac_InvalidText, anO, tkO, mo_InvalidText, no_InvalidText, PySem.W.mg_of X G aC_InvalidText⟩
  have SX_InvalidText : ∀ base : Heap, SxC l.prog w K mg base "InvalidText" C_InvalidText "value" := fun base => ⟨X_InvalidText.oexc, X_InvalidText.m, _, _, i_InvalidText, beq_iff_eq.mp t_InvalidText, sx_InvalidText X_InvalidText.oxc X_InvalidText.no F_InvalidText___init__, b_InvalidText___init__⟩
  have X_InvalidSyntax : ErX K mg "InvalidSyntax" C_InvalidSyntax C_FarError "position" := ⟨⟨_, _, _, _, _, _, _, _, _, _, _, _, _, _, l_InvalidSyntax⟩, sa_InvalidSyntax, kC_InvalidSyntax, ga_InvalidSyntax, gg_InvalidSyntax, ex_InvalidSyntax, ac_InvalidSyntax, anO, tkO, mo_InvalidSyntax, no_InvalidSyntax, PySem.W.mg_of X G aC_InvalidSyntax⟩
  have SX_InvalidSyntax : ∀ base : Heap, SxC l.prog w K mg base "InvalidSyntax" C_InvalidSyntax "position" := fun base => ⟨X_InvalidSyntax.oexc, X_InvalidSyntax.m, _, _, i_InvalidSyntax, beq_iff_eq.mp t_InvalidSyntax, sx_InvalidSyntax X_InvalidSyntax.oxc X_InvalidSyntax.no F_InvalidSyntax___init__, b_InvalidSyntax___init__⟩
  have X_TooLarge : ErX K mg "TooLarge" C_TooLarge C_FarError "word" := ⟨⟨_, _, _, _, _, _, _, _, _, _, _, _, _, _, l_TooLarge⟩, sa_TooLarge, kC_TooLarge, ga_TooLarge, gg_TooLarge, ex_TooLarge, ac_TooLarge, anO, tkO, mo_TooLarge, no_TooLarge, PySem.W.mg_of X G aC_TooLarge⟩
  have SX_TooLarge : ∀ base : Heap, SxC l.prog w K mg base "TooLarge" C_TooLarge "word" := fun base => ⟨X_TooLarge.oexc, X_TooLarge.m, _, _, i_TooLarge, beq_iff_eq.mp t_TooLarge, sx_TooLarge X_TooLarge.oxc X_TooLarge.no F_TooLarge___init__, b_TooLarge___init__⟩
  have tb : TkB mg := ⟨⟨_, g_LETTERS⟩, ⟨_, g_DIGITS⟩, ⟨_, g_GAPS⟩, PySem.W.mg_none_of X G z_len, PySem.W.mg_none_of X G z_max, PySem.W.mg_none_of X G z_all⟩
  have tx : TxB K mg := ⟨⟨_, g_KEYWORDS, q_KEYWORDS⟩, PySem.W.mg_none_of X G z_isinstance, PySem.W.mg_none_of X G z_str⟩
  have Z : RdC K mg C_Reader := ⟨kit_Reader, np_Reader_tokens, np_Reader_at⟩
  have Bz : Bn mg := ⟨PySem.W.mg_none_of X G z_len, PySem.W.mg_none_of X G z_tuple, PySem.W.mg_none_of X G z_max, PySem.W.mg_none_of X G z_enumerate, PySem.W.mg_none_of X G z_reversed, PySem.W.mg_none_of X G z_isinstance, PySem.W.mg_none_of X G z_int, PySem.W.mg_none_of X G z_bool⟩
  have ZZ : SzC K mg C_Size _ _ _ _ _ _ _ := ⟨kit_Size, np_Size_parts, ic_Size, tc_Size, si, mC_Size, g_trimmed, g_sum, g_product, g_negative, g_is_integer, g_is_operand, g_parts_of⟩
  have D : SzDefs K mg C_Size _ _ _ _ _ _ _ _ _ _ _ _ _ _ _ _ _ p_Size_coefficients f_Size_coefficients [.ref t0_Size___init__] e1_Size___init__ := { Z := ZZ, B := Bz, T := F_trimmed, bT := b_trimmed, S := F_sum, bS := b_sum, P := F_product, bP := b_product, N := F_negative, bN := b_negative, I := F_is_integer, bI := b_is_integer, O := F_is_operand, bO := b_is_operand, A := F_parts_of, bA := b_parts_of, M := MK_Size, FM := F_Size___init__, bM := bM2_Size___init__, bM0 := bM1_Size___init__, hd := r1_Size___init__, dv := ⟨t0_Size___init__, rfl, fun H => .inr ⟨_, #[], _, d2_Size___init__, rfl, rfl, by decide, .nil⟩⟩, pc := P_Size_coefficients, G := F_Size_coefficients, bG := b_Size_coefficients }
  have bo : BinOwn K C_Size "add" f_Size___add__ := { sf := sf, hs := a_Size___add__, hf := i_Size___add__, hr := ra, ti := ⟨ia1, ia2, ia, ib⟩, su := si }
  refine ⟨PySem.W.fnOf "law" "law" (defArgs S_law) (defBody S_law) (defScope S_law) .none kV_law dc_law pm_law an_law cd_law ct_law, fun s v => .of_eq rfl, fun base _ _ => ?_⟩
  have GS := SX_InvalidSyntax base
  have GT := SX_TooLarge base
  have GV := SX_InvalidText base
  have Wz : SzS l.prog w K mg base C_Size := ⟨mC_Size, ⟨_, _, _, _, MK_Size, D.okI, bM2_Size___init__, bM1_Size___init__, r1_Size___init__, fun H => .inr ⟨_, #[], _, d2_Size___init__, rfl, rfl, by decide, .nil⟩⟩, ⟨_, _, bo, b_Size___add__, ok_add F_Size___add__ D⟩⟩
  have Y : RdS l.prog w K mg base C_Reader C_InvalidSyntax C_TooLarge := {
    Z := Z
    tok := ⟨_, _, M_Reader_token, b_Reader_token, ok_token F_Reader_token Z⟩
    place := ⟨_, _, M_Reader_place, b_Reader_place, ok_place F_Reader_place Z⟩
    any := ⟨_, _, M_Reader_pass_any, b_Reader_pass_any, ok_pass_any F_Reader_pass_any F_Reader_token b_Reader_token M_Reader_token Z⟩
    passes := ⟨_, _, M_Reader_passes, b_Reader_passes, ok_passes F_Reader_passes F_Reader_token b_Reader_token M_Reader_token Z⟩
    isn := ⟨_, _, g_is_number, F_is_number.kp, b_is_number, ok_is_number F_is_number tb⟩
    name := ⟨_, _, g_name, F_name.kp, b_name, ok_name F_name F_is_name b_is_name g_is_name F_Reader_pass_any b_Reader_pass_any M_Reader_pass_any F_Reader_token b_Reader_token M_Reader_token F_Reader_place b_Reader_place M_Reader_place F_is_word b_is_word g_is_word F_end_of_run b_end_of_run g_end_of_run tb tx Z GS⟩
    number := ⟨_, _, M_Reader_pass_number, b_Reader_pass_number, ok_number F_Reader_pass_number F_Reader_pass_any b_Reader_pass_any M_Reader_pass_any F_Reader_token b_Reader_token M_Reader_token F_Reader_place b_Reader_place M_Reader_place F_is_number b_is_number g_is_number tb (PySem.W.mg_none_of X G z_len) (PySem.W.mg_none_of X G z_int) ⟨_, g_MOST_DIGITS⟩ Z GS GT⟩
    GS := GS
    GT := GT }
  have pw : PtB mg := ⟨⟨_, g_MOST_POWER⟩⟩
  have GSums := ok_sums F_sums F_part b_part g_part Y pw Wz
  have GG := ok_coefficients (P := l.prog) (w := w) (base := base) F_Size_coefficients ZZ
  have V' : PsS l.prog w K mg base C_Reader C_InvalidSyntax C_TooLarge := {
    Y := Y
    only := ⟨_, _, M_Reader_pass_only, b_Reader_pass_only, ok_pass_only F_Reader_pass_only F_Reader_passes b_Reader_passes M_Reader_passes F_Reader_token b_Reader_token M_Reader_token F_Reader_place b_Reader_place M_Reader_place Z GS⟩
    size := ⟨_, _, g_size, F_size.kp, b_size, ok_size F_size GSums F_sums.kp b_sums g_sums P_Size_coefficients kit_Size.cl GG b_Size_coefficients⟩
    index := ⟨_, _, g_index, F_index.kp, b_index, ok_index F_index GSums F_sums.kp b_sums g_sums P_Size_coefficients kit_Size.cl GG b_Size_coefficients (PySem.W.mg_none_of X G z_sorted) (PySem.W.mg_none_of X G z_list) (PySem.W.mg_none_of X G z_tuple)⟩
    most := ⟨_, g_MOST_LOOPS⟩
    st := ⟨_, g_STATEMENTS, q_STATEMENTS⟩
    tup := PySem.W.mg_none_of X G z_tuple }
  have W : PzS l.prog w K mg base C_Reader C_InvalidText C_InvalidSyntax C_TooLarge := {
    V' := V'
    rd := ⟨_, _, g_reader, F_reader.kp, b_reader, ok_reader F_reader MK_Reader (ok_rd_init F_Reader___init__ F_tokens_of b_tokens_of g_tokens_of F_end_of_run b_end_of_run g_end_of_run tb Z) b_Reader___init__ mC_Reader (PySem.W.mg_none_of X G z_isinstance) (PySem.W.mg_none_of X G z_str) GV⟩
    fin := ⟨_, _, M_Reader_pass_end, b_Reader_pass_end, ok_pass_end F_Reader_pass_end F_Reader_token b_Reader_token M_Reader_token F_Reader_place b_Reader_place M_Reader_place Z GS⟩
    blk := ⟨_, _, g_block, F_block.kp, b_block, ok_blocks F_block b_block g_block F_statement b_statement g_statement F_loop b_loop g_loop V' 5 0 rfl⟩ }
  have B : LwB mg := ⟨PySem.W.mg_none_of X G z_len, PySem.W.mg_none_of X G z_int, PySem.W.mg_none_of X G z_abs, PySem.W.mg_none_of X G z_range, PySem.W.mg_none_of X G z_repr, PySem.W.mg_none_of X G z_max, PySem.W.mg_none_of X G z_min⟩
  have te : PySem.W.exmOne K (.ref C_InvalidSyntax) (.ref C_InvalidSyntax) = some true := by rw [X_InvalidSyntax.exm X_InvalidSyntax nf, decide_eq_true rfl]
  exact ok_law F_law { B := B, pool := ⟨_, _, g_law_pool, F_law_pool.kp, b_law_pool, ok_pool F_law_pool B.two⟩, word := ⟨_, _, g_law_word, F_law_word.kp, b_law_word, ok_word F_law_word F_law_take b_law_take g_law_take B⟩, bent := ⟨_, _, g_law_bent, F_law_bent.kp, b_law_bent, ok_bent F_law_bent F_law_take b_law_take g_law_take B⟩, due := ⟨_, _, g_law_due, F_law_due.kp, b_law_due, ok_due F_law_due⟩, isn := ⟨_, _, g_is_name, F_is_name.kp, b_is_name, ok_is_name F_is_name F_is_word b_is_word g_is_word F_end_of_run b_end_of_run g_end_of_run tb tx⟩, rd := ⟨_, _, g_law_is_read, F_law_is_read.kp, b_law_is_read, ok_is_read F_law_is_read F_parse b_parse g_parse W te X_InvalidSyntax.m⟩ }


end K02

namespace K02
end K02
open PySem PySem.W PyProof.Rows
set_option maxRecDepth 100000 in
set_option maxHeartbeats 0 in
theorem PySem.Challenge.cw_farmisses_k02_names_holds : PySem.Challenge.rw_farmisses_k02_names.Holds := by
  w_on; o_law; k_head; (case hw => w_witness2)
  k_fill
  refine L2.walk_ofK (l := PySem.Challenge.rw_farmisses_k02_names) (n := 63) (k := 28) (x := "_law_script") (CX := L2.CX0) (sp := K02.spLaw) rfl (by decide) rfl ⟨rfl, by decide, by decide⟩ (fun w h Y => PySem.W.kIn_of Y) ?F (fun _ _ a ns hl _ hS => ⟨a, ns, rfl, hS, hl, fun _ => rfl⟩) (fun _ _ _ _ z => z)
  case F =>
    intro w mg fa h KX G hmg
    refine' K02.all_mk KX G hmg ?aC_FarError ?aC_InvalidText ?l_InvalidText ?sa_InvalidText ?kC_InvalidText ?ga_InvalidText ?gg_InvalidText ?ex_InvalidText ?ac_InvalidText ?mo_InvalidText ?no_InvalidText ?i_InvalidText ?t_InvalidText ?l_InvalidText___init__ ?c_InvalidText___init__ ?k_InvalidText___init__ ?aC_InvalidSyntax ?l_InvalidSyntax ?sa_InvalidSyntax ?kC_InvalidSyntax ?ga_InvalidSyntax ?gg_InvalidSyntax ?ex_InvalidSyntax ?ac_InvalidSyntax ?mo_InvalidSyntax ?no_InvalidSyntax ?i_InvalidSyntax ?t_InvalidSyntax ?l_InvalidSyntax___init__ ?c_InvalidSyntax___init__ ?k_InvalidSyntax___init__ ?aC_TooLarge ?l_TooLarge ?sa_TooLarge ?kC_TooLarge ?ga_TooLarge ?gg_TooLarge ?ex_TooLarge ?ac_TooLarge ?mo_TooLarge ?no_TooLarge ?i_TooLarge ?t_TooLarge ?l_TooLarge___init__ ?c_TooLarge___init__ ?k_TooLarge___init__ ?a_is_integer ?l_is_integer ?c_is_integer ?k_is_integer ?a_trimmed ?l_trimmed ?c_trimmed ?k_trimmed ?a_sum ?l_sum ?c_sum ?k_sum ?a_product ?l_product ?c_product ?k_product ?a_negative ?l_negative ?c_negative ?k_negative ?a_is_operand ?l_is_operand ?c_is_operand ?k_is_operand ?a_parts_of ?l_parts_of ?c_parts_of ?k_parts_of ?aC_Size ?pg_Size ?hd_Size ?po_Size ?sa_Size ?mk_Size ?kc_Size ?cc_Size ?cm_Size ?ic_Size ?tc_Size ?cgO ?ctO ?np_Size_parts ?a_Size___init__ ?i_Size___init__ ?l_Size___init__ ?c_Size___init__ ?k_Size___init__ ?d1_Size___init__ ?d2_Size___init__ ?pa_Size_coefficients ?pg_Size_coefficients ?pt_Size_coefficients ?pr_Size_coefficients ?l_Size_coefficients ?c_Size_coefficients ?k_Size_coefficients ?pa_Size_degree ?pg_Size_degree ?pt_Size_degree ?pr_Size_degree ?l_Size_degree ?c_Size_degree ?k_Size_degree ?a_Size___add__ ?i_Size___add__ ?l_Size___add__ ?c_Size___add__ ?k_Size___add__ ?a_Size___sub__ ?i_Size___sub__ ?l_Size___sub__ ?c_Size___sub__ ?k_Size___sub__ ?a_Size___mul__ ?i_Size___mul__ ?l_Size___mul__ ?c_Size___mul__ ?k_Size___mul__ ?a_Size___neg__ ?i_Size___neg__ ?l_Size___neg__ ?c_Size___neg__ ?k_Size___neg__ ?a_Size___call__ ?i_Size___call__ ?l_Size___call__ ?c_Size___call__ ?k_Size___call__ ?a_Size___eq__ ?i_Size___eq__ ?l_Size___eq__ ?c_Size___eq__ ?k_Size___eq__ ?a_LETTERS ?a_DIGITS ?a_GAPS ?a_MOST_DIGITS ?a_is_word ?l_is_word ?c_is_word ?k_is_word ?a_is_number ?l_is_number ?c_is_number ?k_is_number ?a_end_of_run ?l_end_of_run ?c_end_of_run ?k_end_of_run ?a_tokens_of ?l_tokens_of ?c_tokens_of ?k_tokens_of ?aC_Reader ?pg_Reader ?hd_Reader ?po_Reader ?sa_Reader ?mk_Reader ?kc_Reader ?cc_Reader ?cm_Reader ?ic_Reader ?tc_Reader ?np_Reader_tokens ?np_Reader_at ?a_Reader___init__ ?i_Reader___init__ ?l_Reader___init__ ?c_Reader___init__ ?k_Reader___init__ ?a_Reader_token ?i_Reader_token ?l_Reader_token ?c_Reader_token ?k_Reader_token ?a_Reader_place ?i_Reader_place ?l_Reader_place ?c_Reader_place ?k_Reader_place ?a_Reader_pass_any ?i_Reader_pass_any ?l_Reader_pass_any ?c_Reader_pass_any ?k_Reader_pass_any ?a_Reader_passes ?i_Reader_passes ?l_Reader_passes ?c_Reader_passes ?k_Reader_passes ?a_Reader_pass_only ?i_Reader_pass_only ?l_Reader_pass_only ?c_Reader_pass_only ?k_Reader_pass_only ?a_Reader_pass_one ?i_Reader_pass_one ?l_Reader_pass_one ?c_Reader_pass_one ?k_Reader_pass_one ?a_Reader_pass_number ?i_Reader_pass_number ?l_Reader_pass_number ?c_Reader_pass_number ?k_Reader_pass_number ?a_Reader_pass_end ?i_Reader_pass_end ?l_Reader_pass_end ?c_Reader_pass_end ?k_Reader_pass_end ?a_KEYWORDS ?l_KEYWORDS ?a_STATEMENTS ?l_STATEMENTS ?a_MOST_POWER ?a_MOST_LOOPS ?a_is_name ?l_is_name ?c_is_name ?k_is_name ?a_parse ?l_parse ?c_parse ?k_parse ?a_reader ?l_reader ?c_reader ?k_reader ?a_name ?l_name ?c_name ?k_name ?a_block ?l_block ?c_block ?k_block ?a_statement ?l_statement ?c_statement ?k_statement ?a_loop ?l_loop ?c_loop ?k_loop ?a_size ?l_size ?c_size ?k_size ?a_index ?l_index ?c_index ?k_index ?a_sums ?l_sums ?c_sums ?k_sums ?a_part ?l_part ?c_part ?k_part ?a_law_pool ?l_law_pool ?c_law_pool ?k_law_pool ?a_law_take ?l_law_take ?c_law_take ?k_law_take ?a_law_due ?l_law_due ?c_law_due ?k_law_due ?a_law_word ?l_law_word ?c_law_word ?k_law_word ?a_law_bent ?l_law_bent ?c_law_bent ?k_law_bent ?a_law_is_read ?l_law_is_read ?c_law_is_read ?k_law_is_read ?a_law ?l_law ?c_law ?k_law ?z_len ?z_tuple ?z_max ?z_enumerate ?z_reversed ?z_isinstance ?z_int ?z_bool ?z_abs ?z_range ?z_list ?z_min ?z_all ?z_str ?z_sorted ?z_repr ?anO ?tkO ?si ?sf ?ra ?ia ?ib ?nf
    (case aC_FarError => k_is)
    (case aC_InvalidText => k_is)
    (case l_InvalidText => k_is)
    (case sa_InvalidText => k_is)
    (case kC_InvalidText => k_is)
    (case ga_InvalidText => k_is)
    (case gg_InvalidText => k_is)
    (case ex_InvalidText => k_is)
    (case ac_InvalidText => k_is)
    (case mo_InvalidText => k_is)
    (case no_InvalidText => k_is)
    (case i_InvalidText => k_is)
    (case t_InvalidText => k_is)
    (case l_InvalidText___init__ => k_is)
    (case c_InvalidText___init__ => k_is)
    (case k_InvalidText___init__ => k_is)
    (case aC_InvalidSyntax => k_is)
    (case l_InvalidSyntax => k_is)
    (case sa_InvalidSyntax => k_is)
    (case kC_InvalidSyntax => k_is)
    (case ga_InvalidSyntax => k_is)
    (case gg_InvalidSyntax => k_is)
    (case ex_InvalidSyntax => k_is)
    (case ac_InvalidSyntax => k_is)
    (case mo_InvalidSyntax => k_is)
    (case no_InvalidSyntax => k_is)
    (case i_InvalidSyntax => k_is)
    (case t_InvalidSyntax => k_is)
    (case l_InvalidSyntax___init__ => k_is)
    (case c_InvalidSyntax___init__ => k_is)
    (case k_InvalidSyntax___init__ => k_is)
    (case aC_TooLarge => k_is)
    (case l_TooLarge => k_is)
    (case sa_TooLarge => k_is)
    (case kC_TooLarge => k_is)
    (case ga_TooLarge => k_is)
    (case gg_TooLarge => k_is)
    (case ex_TooLarge => k_is)
    (case ac_TooLarge => k_is)
    (case mo_TooLarge => k_is)
    (case no_TooLarge => k_is)
    (case i_TooLarge => k_is)
    (case t_TooLarge => k_is)
    (case l_TooLarge___init__ => k_is)
    (case c_TooLarge___init__ => k_is)
    (case k_TooLarge___init__ => k_is)
    (case a_is_integer => k_is)
    (case l_is_integer => k_is)
    (case c_is_integer => k_is)
    (case k_is_integer => k_is)
    (case a_trimmed => k_is)
    (case l_trimmed => k_is)
    (case c_trimmed => k_is)
    (case k_trimmed => k_is)
    (case a_sum => k_is)
    (case l_sum => k_is)
    (case c_sum => k_is)
    (case k_sum => k_is)
    (case a_product => k_is)
    (case l_product => k_is)
    (case c_product => k_is)
    (case k_product => k_is)
    (case a_negative => k_is)
    (case l_negative => k_is)
    (case c_negative => k_is)
    (case k_negative => k_is)
    (case a_is_operand => k_is)
    (case l_is_operand => k_is)
    (case c_is_operand => k_is)
    (case k_is_operand => k_is)
    (case a_parts_of => k_is)
    (case l_parts_of => k_is)
    (case c_parts_of => k_is)
    (case k_parts_of => k_is)
    (case aC_Size => k_is)
    (case pg_Size => k_is)
    (case hd_Size => k_is)
    (case po_Size => k_is)
    (case sa_Size => k_is)
    (case mk_Size => k_is)
    (case kc_Size => k_is)
    (case cc_Size => k_is)
    (case cm_Size => k_is)
    (case ic_Size => k_is)
    (case tc_Size => k_is)
    (case cgO => k_is)
    (case ctO => k_is)
    (case np_Size_parts => k_is)
    (case a_Size___init__ => k_is)
    (case i_Size___init__ => k_is)
    (case l_Size___init__ => k_is)
    (case c_Size___init__ => k_is)
    (case k_Size___init__ => k_is)
    (case d1_Size___init__ => k_is)
    (case d2_Size___init__ => k_is)
    (case pa_Size_coefficients => k_is)
    (case pg_Size_coefficients => k_is)
    (case pt_Size_coefficients => k_is)
    (case pr_Size_coefficients => k_is)
    (case l_Size_coefficients => k_is)
    (case c_Size_coefficients => k_is)
    (case k_Size_coefficients => k_is)
    (case pa_Size_degree => k_is)
    (case pg_Size_degree => k_is)
    (case pt_Size_degree => k_is)
    (case pr_Size_degree => k_is)
    (case l_Size_degree => k_is)
    (case c_Size_degree => k_is)
    (case k_Size_degree => k_is)
    (case a_Size___add__ => k_is)
    (case i_Size___add__ => k_is)
    (case l_Size___add__ => k_is)
    (case c_Size___add__ => k_is)
    (case k_Size___add__ => k_is)
    (case a_Size___sub__ => k_is)
    (case i_Size___sub__ => k_is)
    (case l_Size___sub__ => k_is)
    (case c_Size___sub__ => k_is)
    (case k_Size___sub__ => k_is)
    (case a_Size___mul__ => k_is)
    (case i_Size___mul__ => k_is)
    (case l_Size___mul__ => k_is)
    (case c_Size___mul__ => k_is)
    (case k_Size___mul__ => k_is)
    (case a_Size___neg__ => k_is)
    (case i_Size___neg__ => k_is)
    (case l_Size___neg__ => k_is)
    (case c_Size___neg__ => k_is)
    (case k_Size___neg__ => k_is)
    (case a_Size___call__ => k_is)
    (case i_Size___call__ => k_is)
    (case l_Size___call__ => k_is)
    (case c_Size___call__ => k_is)
    (case k_Size___call__ => k_is)
    (case a_Size___eq__ => k_is)
    (case i_Size___eq__ => k_is)
    (case l_Size___eq__ => k_is)
    (case c_Size___eq__ => k_is)
    (case k_Size___eq__ => k_is)
    (case a_LETTERS => k_is)
    (case a_DIGITS => k_is)
    (case a_GAPS => k_is)
    (case a_MOST_DIGITS => k_is)
    (case a_is_word => k_is)
    (case l_is_word => k_is)
    (case c_is_word => k_is)
    (case k_is_word => k_is)
    (case a_is_number => k_is)
    (case l_is_number => k_is)
    (case c_is_number => k_is)
    (case k_is_number => k_is)
    (case a_end_of_run => k_is)
    (case l_end_of_run => k_is)
    (case c_end_of_run => k_is)
    (case k_end_of_run => k_is)
    (case a_tokens_of => k_is)
    (case l_tokens_of => k_is)
    (case c_tokens_of => k_is)
    (case k_tokens_of => k_is)
    (case aC_Reader => k_is)
    (case pg_Reader => k_is)
    (case hd_Reader => k_is)
    (case po_Reader => k_is)
    (case sa_Reader => k_is)
    (case mk_Reader => k_is)
    (case kc_Reader => k_is)
    (case cc_Reader => k_is)
    (case cm_Reader => k_is)
    (case ic_Reader => k_is)
    (case tc_Reader => k_is)
    (case np_Reader_tokens => k_is)
    (case np_Reader_at => k_is)
    (case a_Reader___init__ => k_is)
    (case i_Reader___init__ => k_is)
    (case l_Reader___init__ => k_is)
    (case c_Reader___init__ => k_is)
    (case k_Reader___init__ => k_is)
    (case a_Reader_token => k_is)
    (case i_Reader_token => k_is)
    (case l_Reader_token => k_is)
    (case c_Reader_token => k_is)
    (case k_Reader_token => k_is)
    (case a_Reader_place => k_is)
    (case i_Reader_place => k_is)
    (case l_Reader_place => k_is)
    (case c_Reader_place => k_is)
    (case k_Reader_place => k_is)
    (case a_Reader_pass_any => k_is)
    (case i_Reader_pass_any => k_is)
    (case l_Reader_pass_any => k_is)
    (case c_Reader_pass_any => k_is)
    (case k_Reader_pass_any => k_is)
    (case a_Reader_passes => k_is)
    (case i_Reader_passes => k_is)
    (case l_Reader_passes => k_is)
    (case c_Reader_passes => k_is)
    (case k_Reader_passes => k_is)
    (case a_Reader_pass_only => k_is)
    (case i_Reader_pass_only => k_is)
    (case l_Reader_pass_only => k_is)
    (case c_Reader_pass_only => k_is)
    (case k_Reader_pass_only => k_is)
    (case a_Reader_pass_one => k_is)
    (case i_Reader_pass_one => k_is)
    (case l_Reader_pass_one => k_is)
    (case c_Reader_pass_one => k_is)
    (case k_Reader_pass_one => k_is)
    (case a_Reader_pass_number => k_is)
    (case i_Reader_pass_number => k_is)
    (case l_Reader_pass_number => k_is)
    (case c_Reader_pass_number => k_is)
    (case k_Reader_pass_number => k_is)
    (case a_Reader_pass_end => k_is)
    (case i_Reader_pass_end => k_is)
    (case l_Reader_pass_end => k_is)
    (case c_Reader_pass_end => k_is)
    (case k_Reader_pass_end => k_is)
    (case a_KEYWORDS => k_is)
    (case l_KEYWORDS => k_is)
    (case a_STATEMENTS => k_is)
    (case l_STATEMENTS => k_is)
    (case a_MOST_POWER => k_is)
    (case a_MOST_LOOPS => k_is)
    (case a_is_name => k_is)
    (case l_is_name => k_is)
    (case c_is_name => k_is)
    (case k_is_name => k_is)
    (case a_parse => k_is)
    (case l_parse => k_is)
    (case c_parse => k_is)
    (case k_parse => k_is)
    (case a_reader => k_is)
    (case l_reader => k_is)
    (case c_reader => k_is)
    (case k_reader => k_is)
    (case a_name => k_is)
    (case l_name => k_is)
    (case c_name => k_is)
    (case k_name => k_is)
    (case a_block => k_is)
    (case l_block => k_is)
    (case c_block => k_is)
    (case k_block => k_is)
    (case a_statement => k_is)
    (case l_statement => k_is)
    (case c_statement => k_is)
    (case k_statement => k_is)
    (case a_loop => k_is)
    (case l_loop => k_is)
    (case c_loop => k_is)
    (case k_loop => k_is)
    (case a_size => k_is)
    (case l_size => k_is)
    (case c_size => k_is)
    (case k_size => k_is)
    (case a_index => k_is)
    (case l_index => k_is)
    (case c_index => k_is)
    (case k_index => k_is)
    (case a_sums => k_is)
    (case l_sums => k_is)
    (case c_sums => k_is)
    (case k_sums => k_is)
    (case a_part => k_is)
    (case l_part => k_is)
    (case c_part => k_is)
    (case k_part => k_is)
    (case a_law_pool => k_is)
    (case l_law_pool => k_is)
    (case c_law_pool => k_is)
    (case k_law_pool => k_is)
    (case a_law_take => k_is)
    (case l_law_take => k_is)
    (case c_law_take => k_is)
    (case k_law_take => k_is)
    (case a_law_due => k_is)
    (case l_law_due => k_is)
    (case c_law_due => k_is)
    (case k_law_due => k_is)
    (case a_law_word => k_is)
    (case l_law_word => k_is)
    (case c_law_word => k_is)
    (case k_law_word => k_is)
    (case a_law_bent => k_is)
    (case l_law_bent => k_is)
    (case c_law_bent => k_is)
    (case k_law_bent => k_is)
    (case a_law_is_read => k_is)
    (case l_law_is_read => k_is)
    (case c_law_is_read => k_is)
    (case k_law_is_read => k_is)
    (case a_law => k_is)
    (case l_law => k_is)
    (case c_law => k_is)
    (case k_law => k_is)
    (case z_len => k_is)
    (case z_tuple => k_is)
    (case z_max => k_is)
    (case z_enumerate => k_is)
    (case z_reversed => k_is)
    (case z_isinstance => k_is)
    (case z_int => k_is)
    (case z_bool => k_is)
    (case z_abs => k_is)
    (case z_range => k_is)
    (case z_list => k_is)
    (case z_min => k_is)
    (case z_all => k_is)
    (case z_str => k_is)
    (case z_sorted => k_is)
    (case z_repr => k_is)
    (case anO => k_is)
    (case tkO => k_is)
    (case si => k_is)
    (case sf => k_is)
    (case ra => k_is)
    (case ia => k_is)
    (case ib => k_is)
    (case nf => decide +kernel)

